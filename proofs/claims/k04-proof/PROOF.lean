import PyProof.Rows.All
import Wide.All
import OpenK.AllK
import Wide.FinOn
import HandS.ForMost
import HandS.Flow
import HandS.IsInst
import HandS.Property
import HandS.Defaults
import HandS.MakeKwOnly
import HandS.Conv
import HandS.TupAny
import HandS.Codes
import HandS.NoneIn
import HandS.Deep
import HandS.Walk
import KE.GoesEnum
import PySem.Challenge.RW_anyrowline_k04_lines_with_any_row
set_option Elab.async false
set_option linter.all false
set_option maxRecDepth 100000
/-! What is shared by the laws' proofs: heaps that grow while one list of one number is counted up, data of tuples and numbers. -/
namespace Aq
open PySem PySem.Spec PyProof.Rows L2

/-! ### heaps -/
theorem small1000' {n : Nat} (h : n ≤ 100000) : n < sizeLine := Nat.lt_of_le_of_lt h (by decide)
theorem grow {H : Hp} {p : Addr} {o : HO} (h : H p = none) : Same H (upd H p o) := fun b x e => by
  rw [upd_ne (ne_of_none e h)]
  exact e
theorem Same.sqT {K : PySem.W.Frag} {H H' : Hp} {a : Addr} {xs : List V} (e : Same H H') (h : SqT K H a xs) : SqT K H' a xs := by
  rcases h with (h | ⟨o, h⟩) | h
  · exact .inl (.inl (e _ _ h))
  · exact .inl (.inr ⟨o, e _ _ h⟩)
  · exact .inr h
/-- all that was tracked, but at s, is as it was -/
def But (s : Addr) (H H' : Hp) : Prop := ∀ b o, b ≠ s → H b = some o → H' b = some o
theorem But.refl {s : Addr} {H : Hp} : But s H H := fun _ _ _ e => e
theorem But.trans {s : Addr} {H H1 H2 : Hp} (a : But s H H1) (b : But s H1 H2) : But s H H2 := fun c o n e => b c o n (a c o n e)
theorem But.of {s : Addr} {H H1 : Hp} (a : Same H H1) : But s H H1 := fun c o _ e => a c o e
theorem But.at_ {s : Addr} {H : Hp} {o : HO} : But s H (upd H s o) := fun c u n e => by
  rw [upd_ne n]
  exact e
/-- the counter -/
def Spot (H : Hp) (s : Addr) : Prop := ∃ n : Int, 0 ≤ n ∧ H s = some (.lst [.int n])
/-- the row of numbers -/
def Row (H : Hp) (a : Addr) : Prop := ∃ ns : List Int, H a = some (.lst (ns.map V.int)) ∧ 0 < ns.length ∧ ns.length ≤ 4000
/-- both stand -/
structure RS (H : Hp) (a s : Addr) : Prop where
  row : Row H a
  spot : Spot H s
  ne : a ≠ s
/-- from H to H' only the counter has changed, and new things have come -/
structure Dr (s : Addr) (H H' : Hp) : Prop where
  but : But s H H'
  spot : Spot H' s
theorem Dr.trans {s : Addr} {H H1 H2 : Hp} (a : Dr s H H1) (b : Dr s H1 H2) : Dr s H H2 := ⟨a.but.trans b.but, b.spot⟩
theorem Spot.same {H H' : Hp} {s : Addr} (h : Spot H s) (e : Same H H') : Spot H' s := by
  obtain ⟨n, a, b⟩ := h
  exact ⟨n, a, e _ _ b⟩
theorem Dr.same {s : Addr} {H H' : Hp} (h : Spot H s) (e : Same H H') : Dr s H H' := ⟨.of e, h.same e⟩
theorem Dr.grow {s p : Addr} {H H1 : Hp} {o : HO} (a : Dr s H H1) (h : H1 p = none) : Dr s H (upd H1 p o) := a.trans (.same a.spot (Aq.grow h))
theorem RS.dr {H H' : Hp} {a s : Addr} (h : RS H a s) (d : Dr s H H') : RS H' a s := by
  obtain ⟨ns, e, l1, l2⟩ := h.row
  exact ⟨⟨ns, d.but _ _ h.ne e, l1, l2⟩, d.spot, h.ne⟩
theorem RS.same {H H' : Hp} {a s : Addr} (h : RS H a s) (e : Same H H') : RS H' a s := h.dr (.same h.spot e)
theorem Dr.sqT {K : PySem.W.Frag} {H H' : Hp} {s a : Addr} {xs : List V} (d : Dr s H H') (hs : Spot H s) (h : SqT K H a xs) : SqT K H' a xs := by
  obtain ⟨n, _, e⟩ := hs
  rcases h with (h | ⟨o, h⟩) | h
  · exact .inl (.inl (d.but _ _ (ne_of h e (by intro z; cases z)) h))
  · exact .inl (.inr ⟨o, d.but _ _ (ne_of h e (by intro z; cases z)) h⟩)
  · exact .inr h

/-! ### data -/
/-- a tuple of numbers; of such; of such -/
def T1 (K : PySem.W.Frag) (H : Hp) (v : V) (l : List Int) : Prop := ∃ a, v = .ref a ∧ SqT K H a (l.map V.int) ∧ l.length ≤ 1000
def T2 (K : PySem.W.Frag) (H : Hp) (v : V) (l : List (List Int)) : Prop := ∃ a xs, v = .ref a ∧ SqT K H a xs ∧ Paired (T1 K H) xs l ∧ l.length ≤ 1000
def T3 (K : PySem.W.Frag) (H : Hp) (v : V) (l : List (List (List Int))) : Prop := ∃ a xs, v = .ref a ∧ SqT K H a xs ∧ Paired (T2 K H) xs l ∧ l.length ≤ 1000
/-- tuples stay -/
def Stay (K : PySem.W.Frag) (H H' : Hp) : Prop := ∀ a xs, SqT K H a xs → SqT K H' a xs
theorem Stay.refl {K : PySem.W.Frag} {H : Hp} : Stay K H H := fun _ _ h => h
theorem Stay.trans {K : PySem.W.Frag} {H H1 H2 : Hp} (a : Stay K H H1) (b : Stay K H1 H2) : Stay K H H2 := fun c xs h => b c xs (a c xs h)
theorem Stay.same {K : PySem.W.Frag} {H H' : Hp} (e : Same H H') : Stay K H H' := fun _ _ h => Same.sqT e h
theorem Stay.dr {K : PySem.W.Frag} {s : Addr} {H H' : Hp} (hs : Spot H s) (d : Dr s H H') : Stay K H H' := fun _ _ h => d.sqT hs h
theorem T1.stay {K : PySem.W.Frag} {H H' : Hp} (e : Stay K H H') {v : V} {l : List Int} (h : T1 K H v l) : T1 K H' v l := by
  obtain ⟨a, rfl, t, z⟩ := h
  exact ⟨a, rfl, e _ _ t, z⟩
theorem T2.stay {K : PySem.W.Frag} {H H' : Hp} (e : Stay K H H') {v : V} {l : List (List Int)} (h : T2 K H v l) : T2 K H' v l := by
  obtain ⟨a, xs, rfl, t, p, z⟩ := h
  exact ⟨a, xs, rfl, e _ _ t, L2.Paired.mapP p fun _ _ q => q.stay e, z⟩
theorem T3.stay {K : PySem.W.Frag} {H H' : Hp} (e : Stay K H H') {v : V} {l : List (List (List Int))} (h : T3 K H v l) : T3 K H' v l := by
  obtain ⟨a, xs, rfl, t, p, z⟩ := h
  exact ⟨a, xs, rfl, e _ _ t, L2.Paired.mapP p fun _ _ q => q.stay e, z⟩
theorem pd_stay {K : PySem.W.Frag} {H H' : Hp} (e : Stay K H H') {xs : List V} {l : List (List Int)} (p : Paired (T1 K H) xs l) : Paired (T1 K H') xs l := L2.Paired.mapP p fun _ _ q => q.stay e
theorem pd_stay2 {K : PySem.W.Frag} {H H' : Hp} (e : Stay K H H') {xs : List V} {l : List (List (List Int))} (p : Paired (T2 K H) xs l) : Paired (T2 K H') xs l := L2.Paired.mapP p fun _ _ q => q.stay e
theorem Pd.snoc {α β : Type} {R : α → β → Prop} : ∀ {xs : List α} {ys : List β} {x : α} {y : β}, Paired R xs ys → R x y → Paired R (xs ++ [x]) (ys ++ [y])
  | _, _, _, _, .nil, r => .cons r .nil
  | _, _, _, _, .cons a t, r => .cons a (Pd.snoc t r)
theorem Pd.at_ {α β : Type} {R : α → β → Prop} : ∀ {xs : List α} {ys : List β} {i : Nat} {x : α}, Paired R xs ys → xs[i]? = some x → ∃ y, ys[i]? = some y ∧ R x y
  | _, _, _, _, .nil, h => by simp at h
  | _, _, 0, _, .cons a t, h => ⟨_, rfl, by cases Option.some.inj h; exact a⟩
  | _, _, i + 1, _, .cons a t, h => by
    obtain ⟨y, h1, h2⟩ := Pd.at_ (i := i) t h
    exact ⟨y, h1, h2⟩
theorem Pd.at2 {α β : Type} {R : α → β → Prop} : ∀ {xs : List α} {ys : List β} {i : Nat} {y : β}, Paired R xs ys → ys[i]? = some y → ∃ x, xs[i]? = some x ∧ R x y
  | _, _, _, _, .nil, h => by simp at h
  | _, _, 0, _, .cons a t, h => ⟨_, rfl, by cases Option.some.inj h; exact a⟩
  | _, _, i + 1, _, .cons a t, h => by
    obtain ⟨y, h1, h2⟩ := Pd.at2 (i := i) t h
    exact ⟨y, h1, h2⟩

/-! ### what is the same -/
def scalB : V → Bool
  | .non => true
  | .bl _ => true
  | .int _ => true
  | .str _ => true
  | _ => false
/-- v and w are the same plain data, at most n deep -/
def So (K : PySem.W.Frag) (H : Hp) : Nat → V → V → Prop
  | 0, v, w => v = w ∧ scalB v = true
  | n + 1, v, w => (v = w ∧ scalB v = true) ∨ ∃ a b xs ys, v = .ref a ∧ w = .ref b ∧ SqT K H a xs ∧ SqT K H b ys ∧ Paired (So K H n) xs ys ∧ ys.length ≤ 1000
theorem So.stay {K : PySem.W.Frag} {H H' : Hp} (e : Stay K H H') : ∀ {n : Nat} {v w : V}, So K H n v w → So K H' n v w
  | 0, _, _, h => h
  | n + 1, _, _, .inl h => .inl h
  | n + 1, _, _, .inr ⟨a, b, xs, ys, e1, e2, t1, t2, p, z⟩ => .inr ⟨a, b, xs, ys, e1, e2, e _ _ t1, e _ _ t2, L2.Paired.mapP p fun _ _ q => So.stay e q, z⟩
theorem So.sc {K : PySem.W.Frag} {H : Hp} {v : V} (h : scalB v = true) : ∀ n : Nat, So K H n v v
  | 0 => ⟨rfl, h⟩
  | _ + 1 => .inl ⟨rfl, h⟩
theorem so_ints {K : PySem.W.Frag} {H : Hp} (n : Nat) : ∀ l : List Int, Paired (So K H n) (l.map V.int) (l.map V.int)
  | [] => .nil
  | x :: r => .cons (So.sc rfl n) (so_ints n r)
theorem so1 {K : PySem.W.Frag} {H : Hp} {v w : V} {l : List Int} (h : T1 K H v l) (h' : T1 K H w l) (n : Nat) : So K H (n + 1) v w := by
  obtain ⟨a, rfl, t, _⟩ := h
  obtain ⟨b, rfl, t', z⟩ := h'
  exact .inr ⟨a, b, _, _, rfl, rfl, t, t', so_ints n l, by rw [List.length_map]; exact z⟩
theorem pd_comp {α β γ : Type} {R : α → β → Prop} {S : γ → β → Prop} {U : α → γ → Prop} (h : ∀ a b c, R a b → S c b → U a c) : ∀ {xs : List α} {l : List β} {ys : List γ}, Paired R xs l → Paired S ys l → Paired U xs ys
  | _, _, _, .nil, .nil => .nil
  | _, _, _, .cons a t, .cons b u => .cons (h _ _ _ a b) (pd_comp h t u)
theorem so2 {K : PySem.W.Frag} {H : Hp} {v w : V} {l : List (List Int)} (h : T2 K H v l) (h' : T2 K H w l) (n : Nat) : So K H (n + 2) v w := by
  obtain ⟨a, xs, rfl, t, p, _⟩ := h
  obtain ⟨b, ys, rfl, t', p', z⟩ := h'
  exact .inr ⟨a, b, _, _, rfl, rfl, t, t', pd_comp (R := T1 K H) (S := T1 K H) (U := So K H (n + 1)) (fun _ _ _ q q' => so1 q q' n) p p', by rw [p'.length]; exact z⟩
theorem so3 {K : PySem.W.Frag} {H : Hp} {v w : V} {l : List (List (List Int))} (h : T3 K H v l) (h' : T3 K H w l) (n : Nat) : So K H (n + 3) v w := by
  obtain ⟨a, xs, rfl, t, p, _⟩ := h
  obtain ⟨b, ys, rfl, t', p', z⟩ := h'
  exact .inr ⟨a, b, _, _, rfl, rfl, t, t', pd_comp (R := T2 K H) (S := T2 K H) (U := So K H (n + 2)) (fun _ _ _ q q' => so2 q q' n) p p', by rw [p'.length]; exact z⟩
/-- a tuple is of the type tuple -/
theorem ty_tup {K : PySem.W.Frag} {H : Hp} {a : Addr} {xs : List V} (h : SqT K H a xs) : TyX K H (.ref a) (.type "tuple") := by
  rcases h with (h | ⟨o, h⟩) | ⟨o, its, n, h, hc, _⟩
  · exact .base (.tup h)
  · exact .fTuple h
  · exact .kTuple h hc
theorem ty_lst {K : PySem.W.Frag} {H : Hp} {a : Addr} {xs : List V} (h : SqL K H a xs) : TyX K H (.ref a) (.type "list") := by
  rcases h with (h | ⟨o, h⟩) | ⟨o, its, n, h, hc, _⟩
  · exact .base (.lst h)
  · exact .base (.frz h)
  · exact .kList h hc

/-! ### lists in the place of tuples -/
def I0 : Hp → V → Int → Prop := fun _ v i => v = .int i
def TL {α : Type} (K : PySem.W.Frag) (R : Hp → V → α → Prop) : Hp → V → List α → Prop := fun H v l => ∃ a xs, v = .ref a ∧ SqT K H a xs ∧ Paired (R H) xs l ∧ l.length ≤ 1000
def SL {α : Type} (K : PySem.W.Frag) (R : Hp → V → α → Prop) : Hp → V → List α → Prop := fun H v l => ∃ a xs, v = .ref a ∧ (SqL K H a xs ∨ SqT K H a xs) ∧ Paired (R H) xs l ∧ l.length ≤ 1000
def Mono {α : Type} (S : Hp → V → α → Prop) : Prop := ∀ H H' v x, Same H H' → S H v x → S H' v x
theorem I0.mono : Mono I0 := fun _ _ _ _ _ h => h
theorem SL.mono {α : Type} {K : PySem.W.Frag} {S : Hp → V → α → Prop} (m : Mono S) : Mono (SL K S) := fun H H' v x e ⟨a, xs, e1, t, p, z⟩ =>
  ⟨a, xs, e1, t.elim (fun t => .inl (e.seq t)) (fun t => .inr (Same.sqT e t)), L2.Paired.mapP p fun _ _ q => m _ _ _ _ e q, z⟩
theorem TL.mono {α : Type} {K : PySem.W.Frag} {S : Hp → V → α → Prop} (m : Mono S) : Mono (TL K S) := fun H H' v x e ⟨a, xs, e1, t, p, z⟩ =>
  ⟨a, xs, e1, Same.sqT e t, L2.Paired.mapP p fun _ _ q => m _ _ _ _ e q, z⟩
theorem TL.sl {α : Type} {K : PySem.W.Frag} {R S : Hp → V → α → Prop} {H : Hp} {v : V} {l : List α} (m : ∀ v x, R H v x → S H v x) (h : TL K R H v l) : SL K S H v l := by
  obtain ⟨a, xs, e1, t, p, z⟩ := h
  exact ⟨a, xs, e1, .inr t, L2.Paired.mapP p fun _ _ q => m _ _ q, z⟩
theorem pd_int {H : Hp} : ∀ {xs : List V} {l : List Int}, Paired (I0 H) xs l → xs = l.map V.int
  | _, _, .nil => rfl
  | _, _, .cons a t => by rw [pd_int t, show _ = _ from a]; rfl
theorem int_pd {H : Hp} : ∀ l : List Int, Paired (I0 H) (l.map V.int) l
  | [] => .nil
  | x :: r => .cons rfl (int_pd r)
theorem T1.tl {K : PySem.W.Frag} {H : Hp} {v : V} {l : List Int} (h : T1 K H v l) : TL K I0 H v l := by
  obtain ⟨a, e, t, z⟩ := h
  exact ⟨a, _, e, t, int_pd l, z⟩
theorem TL.t1 {K : PySem.W.Frag} {H : Hp} {v : V} {l : List Int} (h : TL K I0 H v l) : T1 K H v l := by
  obtain ⟨a, xs, e, t, p, z⟩ := h
  rw [pd_int p] at t
  exact ⟨a, e, t, z⟩
theorem T2.tl {K : PySem.W.Frag} {H : Hp} {v : V} {l : List (List Int)} (h : T2 K H v l) : TL K (TL K I0) H v l := by
  obtain ⟨a, xs, e, t, p, z⟩ := h
  exact ⟨a, _, e, t, L2.Paired.mapP p fun _ _ q => T1.tl q, z⟩
theorem TL.t2 {K : PySem.W.Frag} {H : Hp} {v : V} {l : List (List Int)} (h : TL K (TL K I0) H v l) : T2 K H v l := by
  obtain ⟨a, xs, e, t, p, z⟩ := h
  exact ⟨a, _, e, t, L2.Paired.mapP p fun _ _ q => TL.t1 q, z⟩
theorem T3.tl {K : PySem.W.Frag} {H : Hp} {v : V} {l : List (List (List Int))} (h : T3 K H v l) : TL K (TL K (TL K I0)) H v l := by
  obtain ⟨a, xs, e, t, p, z⟩ := h
  exact ⟨a, _, e, t, L2.Paired.mapP p fun _ _ q => T2.tl q, z⟩
/-- what is new at H' -/
def New (H H' : Hp) : Hp := fun b => if (H b).isSome = true then none else H' b
/-- .. but D -/
def Wo (D : Addr) (H H' : Hp) : Hp := fun b => if b = D ∨ (H b).isSome = true then none else H' b
theorem New.le {H H' : Hp} : Same (New H H') H' := fun b o e => by
  unfold New at e
  split at e
  · cases e
  · exact e
theorem New.at_ {H H' : Hp} {b : Addr} (h : H b = none) : New H H' b = H' b := by
  unfold New
  rw [h]
  exact if_neg Bool.false_ne_true
theorem Wo.le {D : Addr} {H H' : Hp} : Same (Wo D H H') (New H H') := fun b o e => by
  unfold Wo at e
  unfold New
  split at e
  · cases e
  · rename_i n
    rw [if_neg fun z => n (.inr z)]
    exact e
theorem Wo.grow {D : Addr} {H H' H'' : Hp} {o : HO} (e : Same H' H'') : Same (Wo D H H') (Wo D H (upd H'' D o)) := fun b u q => by
  unfold Wo at q ⊢
  split at q
  · cases q
  · rename_i n
    rw [if_neg n, upd_ne fun z => n (.inl z)]
    exact e b u q
theorem New.wo {D : Addr} {H H' H'' : Hp} {o u : HO} (e : Same H H') (hD : H' D = some u) : Same (New H' H'') (Wo D H (upd H'' D o)) := fun b z q => by
  unfold New at q
  split at q
  · cases q
  · rename_i n
    have nb : b ≠ D := fun w => n (by rw [w, hD]; rfl)
    unfold Wo
    rw [if_neg, upd_ne nb]
    · exact q
    · rintro (w | w)
      · exact nb w
      · obtain ⟨x, hx⟩ := Option.isSome_iff_exists.mp w
        exact n (by rw [e b x hx]; rfl)
def spLo {α : Type} (R S : Hp → V → α → Prop) (L : Hp → Hp → V → Prop) : Sp := fun vs H Q _ => ∃ (v : V) (x : α) (t : Int), vs = [v, .int t] ∧ R H v x ∧ ∀ w H', Same H H' → S (New H H') w x → (t % 2 = 0 → L H H' w) → Q w H'
def Lnew : Hp → Hp → V → Prop := fun H H' w => ∃ b ys, w = .ref b ∧ H b = none ∧ H' b = some (.lst ys)

/-! ### the promises of the law's helpers -/
def spSo (K : PySem.W.Frag) (n : Nat) : Sp := fun vs H Q _ => ∃ v w, vs = [v, w] ∧ So K H n v w ∧ Q (.bl true) H
def spNumbers (K : PySem.W.Frag) : Sp := fun vs H Q _ => ∃ (a : Addr) (ns : List Int), vs = [.ref a] ∧ SqL K H a (ns.map V.int) ∧ ns.length ≤ 63 ∧ ∀ p H', Same H H' → H p = none → Row H' p → Q (.ref p) H'
def spDraw : Sp := fun vs H Q _ => ∃ (a : Addr) (n m : Int), vs = [.ref a, .int n, .int m] ∧ Row H a ∧ 0 ≤ n ∧ 0 < m ∧ ∀ r : Int, 0 ≤ r → r < m → Q (.int r) H
def spTake : Sp := fun vs H Q _ => ∃ (a s : Addr) (m : Int), vs = [.ref a, .ref s, .int m] ∧ RS H a s ∧ 0 < m ∧ ∀ (r : Int) H', 0 ≤ r → r < m → Dr s H H' → Q (.int r) H'
/-! ### what the program asks of a value -/
/-- v is known: none, a truth value, a number, a text (then it is no sequence), or a sequence of xs -/
inductive Vw (K : PySem.W.Frag) (H : Hp) : V → Option (List V) → Prop where
  | non : Vw K H .non none
  | bl (b : Bool) : Vw K H (.bl b) none
  | int (i : Int) : Vw K H (.int i) none
  | str (s : Str) : Vw K H (.str s) none
  | lst {a : Addr} {xs : List V} (h : SqL K H a xs) : Vw K H (.ref a) (some xs)
  | tup {a : Addr} {xs : List V} (h : SqT K H a xs) : Vw K H (.ref a) (some xs)
theorem Vw.same {K : PySem.W.Frag} {H H' : Hp} {v : V} {o : Option (List V)} (e : Same H H') (h : Vw K H v o) : Vw K H' v o := by
  cases h with
  | non => exact .non
  | bl b => exact .bl b
  | int i => exact .int i
  | str s => exact .str s
  | lst h => exact .lst (e.seq h)
  | tup h => exact .tup (Same.sqT e h)
def isI : V → Bool
  | .int _ => true
  | _ => false
def inW : V → Int → Int → Bool
  | .int i, lo, hi => decide (lo ≤ i) && decide (i ≤ hi)
  | _, _, _ => false
def lenW : Option (List V) → Int → Int → Bool
  | some xs, lo, hi => decide (lo ≤ (xs.length : Int)) && decide ((xs.length : Int) ≤ hi)
  | none, _, _ => false
def allW : Option (List V) → Int → Int → Bool
  | some xs, lo, hi => xs.all fun x => inW x lo hi
  | none, _, _ => false
/-- ascending numbers from lo, below many -/
def ascW : List V → Int → Int → Bool
  | [], _, _ => true
  | x :: r, lo, many => inW x lo (many - 1) && ascW r (match x with | .int i => i + 1 | _ => 0) many
def ascO : Option (List V) → Int → Bool
  | some xs, many => ascW xs 0 many
  | none, _ => false
def spIsI (K : PySem.W.Frag) : Sp := fun vs H Q _ => ∃ v o, vs = [v] ∧ Vw K H v o ∧ Q (.bl (isI v)) H
def spIsW (K : PySem.W.Frag) : Sp := fun vs H Q _ => ∃ v o lo hi, vs = [v, .int lo, .int hi] ∧ Vw K H v o ∧ Q (.bl (inW v lo hi)) H
def spIsS (K : PySem.W.Frag) : Sp := fun vs H Q _ => ∃ v o, vs = [v] ∧ Vw K H v o ∧ ∀ H', Same H H' → Q (.bl o.isSome) H'
def spLen (K : PySem.W.Frag) : Sp := fun vs H Q _ => ∃ v o lo hi, vs = [v, .int lo, .int hi] ∧ Vw K H v o ∧ ∀ H', Same H H' → Q (.bl (lenW o lo hi)) H'
def spAre (K : PySem.W.Frag) : Sp := fun vs H Q _ => ∃ v o lo hi, vs = [v, .int lo, .int hi] ∧ Vw K H v o ∧ (∀ xs, o = some xs → xs.length ≤ 1000 ∧ ∀ x ∈ xs, ∃ o', Vw K H x o') ∧ ∀ H', Same H H' → Q (.bl (allW o lo hi)) H'
def spAsc (K : PySem.W.Frag) : Sp := fun vs H Q _ => ∃ v o many, vs = [v, .int many] ∧ Vw K H v o ∧ (∀ xs, o = some xs → ∀ x ∈ xs, ∃ o', Vw K H x o') ∧ ∀ H', Same H H' → Q (.bl (ascO o many)) H'

def intOf : V → Int
  | .int z => z
  | _ => 0
def isTask : Option (List V) → Bool
  | some [u, p] => inW p 0 10000 && inW u 0 (intOf p)
  | _ => false
def isPair : Option (List V) → Int → Bool
  | some [a, b], n => inW a 0 (n - 1) && inW b 0 (n - 1) && decide (intOf a ≠ intOf b)
  | _, _ => false
def isArc : Option (List V) → Int → Int → Bool
  | some [a, b], n, m => inW a 0 (n - 1) && inW b 0 (m - 1)
  | _, _, _ => false
def isSlips : V → Bool
  | .non => true
  | v => inW v 0 8
/-- the items of a sequence are known, too -/
def Kn (K : PySem.W.Frag) (H : Hp) (o : Option (List V)) : Prop := ∀ xs, o = some xs → xs.length ≤ 1000 ∧ ∀ x ∈ xs, ∃ o', Vw K H x o'
theorem Kn.same {K : PySem.W.Frag} {H H' : Hp} {o : Option (List V)} (e : Same H H') (h : Kn K H o) : Kn K H' o := fun xs q => ⟨(h xs q).1, fun x hx => let ⟨o', z⟩ := (h xs q).2 x hx; ⟨o', z.same e⟩⟩
def spSlips (K : PySem.W.Frag) : Sp := fun vs H Q _ => ∃ v o, vs = [v] ∧ Vw K H v o ∧ Q (.bl (isSlips v)) H
def spTask (K : PySem.W.Frag) : Sp := fun vs H Q _ => ∃ v o, vs = [v] ∧ Vw K H v o ∧ Kn K H o ∧ ∀ H', Same H H' → Q (.bl (isTask o)) H'
def spPair (K : PySem.W.Frag) : Sp := fun vs H Q _ => ∃ v o n, vs = [v, .int n] ∧ Vw K H v o ∧ Kn K H o ∧ ∀ H', Same H H' → Q (.bl (isPair o n)) H'
def spArc (K : PySem.W.Frag) : Sp := fun vs H Q _ => ∃ v o n m, vs = [v, .int n, .int m] ∧ Vw K H v o ∧ Kn K H o ∧ ∀ H', Same H H' → Q (.bl (isArc o n m)) H'
theorem inW_int {v : V} {lo hi : Int} (h : inW v lo hi = true) : ∃ i, v = .int i ∧ lo ≤ i ∧ i ≤ hi := by
  cases v with
  | int i =>
    have h' : (decide (lo ≤ i) && decide (i ≤ hi)) = true := h
    simp at h'
    exact ⟨i, rfl, h'.1, h'.2⟩
  | _ => cases h
theorem inW_of {i lo hi : Int} (h1 : lo ≤ i) (h2 : i ≤ hi) : inW (.int i) lo hi = true := by
  show (decide (lo ≤ i) && decide (i ≤ hi)) = true
  rw [decide_eq_true h1, decide_eq_true h2]
  rfl
theorem hu65 {k : Nat} {A : Around} (r : Room k A) : A.units + 65 < cLine := by
  have := r.un
  omega

/-! ### a def of the text, and its promise -/
structure Df (K : PySem.W.Frag) (mg : Str → Option Value) (x : Str) (st : Stmt) (ps : List Str) : Prop where
  ex : ∃ (f : Addr) (fd : FuncData), Fun K x x st f fd ∧ mg x = some (.ref f) ∧ Binds K fd ps []
theorem Df.cal {P : Program} {w : World} {K : PySem.W.Frag} {mg : Str → Option Value} {base : Heap} {x : Str} {st : Stmt} {N ps : List Str} {k : Nat} {sp : Sp} (D : Df K mg x st ps) (S : FnScope N ps (defScope st)) (len : ∀ vs H Q E, sp vs H Q E → vs.length = ps.length)
    (hbody : ∀ (f : Addr) (cdv : Value) (A : Around) (outer : List Env) (s : Shared) (H : Hp) (vs : List V) (Q : VK) (E : XK), Room k (A.deeper (envOfC x (defScope st) s.heap.objs.size f cdv)) → sp vs H Q E →
      ∃ t, PSs (cxOf CX0 P w K mg base N x (defScope st) f cdv A outer s H E).nox (defBody st) t ∧ t { nx := fun _ H' => Q .non H', rt := Q } (start N vs) H) : C8.Cal P w K mg base (k + 1) x sp [] := by
  obtain ⟨f, fd, F, g, b⟩ := D.ex
  exact ⟨f, fd, ps, [], F.ok S len (hbody f), g, F.kp, b, .nil⟩
theorem df_mk {K : PySem.W.Frag} {h : Heap} {mg : Str → Option Value} {x : Str} {st : Stmt} {ps : List Str} {f : Addr} {oc : Value} {od an : Option Addr} {osl : Array (Option Value)} {kV doc pm cdv ct : Value} (X : K.In h) (G : h.Ns mainGlobals mg)
    (b : ∀ (kV doc pm : Value) (an : Option Addr) (cdv ct : Value) (us : List Value), us.length = ps.length → bindArgs (PySem.W.fnOf x x (defArgs st) (defBody st) (defScope st) .none kV doc pm an cdv ct) ⟨us, []⟩ = pure (ps.zip us))
    (a : PySem.W.nsIn K mainGlobals x = some (some (.ref f))) (l : K.lookup f = some ⟨oc, od, .func (PySem.W.fnOf x x (defArgs st) (defBody st) (defScope st) .none kV doc pm an cdv ct), osl⟩) (c : PySem.W.codeIn K cdv x = true) (k : PySem.W.keepIn K (.ref f) = true) : Df K mg x st ps := by
  have F := fun_mk (st := st) l c k
  exact ⟨f, _, F, PySem.W.mg_of X G a, F.binds b⟩
end Aq
set_option maxHeartbeats 4000000
/-! for i, x in enumerate(t), t a tuple: as the layer has it for a list -/
namespace Aq
open PySem PySem.Spec PyProof.Rows L2
theorem enumT_made (t : Addr) (items : Array Value) : Meets (Builtin.«enumerate.__new__» ⟨[.type "enumerate", .ref t], []⟩) (fun _ R s => s.heap.IsTuple t items ∧
    R (.ok (.ret (.ref (s.heap.push { cls := .type "tuple_iterator", data := .fields #[.ref t, .int 0 0] }).objs.size))) { s with heap := (s.heap.push { cls := .type "tuple_iterator", data := .fields #[.ref t, .int 0 0] }).push { cls := .type "enumerate", data := .fields #[.none, .bool false, .ref s.heap.objs.size, rawInt 0, .none, .none] } }) :=
  Meets.of_wp fun prog w A R s hh => by
    obtain ⟨hp, g, d, tk, os⟩ := s
    obtain ⟨hT, hR⟩ := hh
    have hsub : isSubtype (.type "enumerate") (.type "enumerate") = pure true := sub_enumerate
    have q1 : ∀ {A' : Around} {E : Value → Shared → Prop} {Q : Value → Shared → Prop}, Q (.ref hp.objs.size) ⟨hp.push { cls := .type "tuple_iterator", data := .fields #[.ref t, .int 0 0] }, g, d, tk, os⟩ →
        wpAny (model prog w) A' (pyIter (.ref t)) Q E ⟨hp, g, d, tk, os⟩ := fun q => wpAny_pyIter_tuple hT q
    wp_walk using q1
    refine wpAny_stack_any fun st => (wpAny_pure ?_)
    split
    · rename_i c _ _ _ _ _
      cases (c == Value.type "enumerate") <;> (wp_walk using q1; exact ⟨_, rfl, hR⟩)
    · (wp_walk using q1; exact ⟨_, rfl, hR⟩)
theorem enumT_call {prog : Program} {w : World} {A : Around} {E : Value → Shared → Prop} {s : Shared} {t : Addr} {items : Array Value} {Q : Value → Shared → Prop} (hT : s.heap.IsTuple t items)
    (h : ∀ h', IsEnum h' (s.heap.objs.size + 1) s.heap.objs.size 0 .none → h'.IsTupleIter s.heap.objs.size t 0 → (∀ b o, s.heap.get? b = some o → h'.get? b = some o) → Q (.ref (s.heap.objs.size + 1)) { s with heap := h' }) :
    wpAny (model prog w) A (call (.type "enumerate") [.ref t]) Q E s := by
  refine callType_new F.called_enumerate (by decide) (F.typeCall_enumerate_1 _) (F.newCall_enumerate_1 _) (fun obj => F.args_object_init_2 obj _) F.entry_enumerate_new (enumT_made t items) ⟨hT, ?_⟩
  have hz : (s.heap.push { cls := .type "tuple_iterator", data := .fields #[.ref t, .int 0 0] }).objs.size = s.heap.objs.size + 1 := Heap.size_push ..
  show _ ∧ _
  rw [hz]
  have he : IsEnum ((s.heap.push { cls := .type "tuple_iterator", data := .fields #[.ref t, .int 0 0] }).push { cls := .type "enumerate", data := .fields #[.none, .bool false, .ref s.heap.objs.size, rawInt 0, .none, .none] }) (s.heap.objs.size + 1) s.heap.objs.size 0 .none := by
    have z := Heap.get?_push_size (s.heap.push { cls := .type "tuple_iterator", data := .fields #[.ref t, .int 0 0] }) (o := { cls := .type "enumerate", data := .fields #[.none, .bool false, .ref s.heap.objs.size, rawInt 0, .none, .none] }) rfl
    rw [hz] at z
    exact z
  exact ⟨⟨_, he, rfl⟩, h _ he ⟨_, Heap.get?_push_of_some _ (Heap.get?_push_size _ rfl), rfl, rfl⟩ fun b o x => Heap.get?_push_of_some _ (Heap.get?_push_of_some _ x)⟩
/-- the tuple at a, each item in a new pair -/
def IteT (K : PySem.W.Frag) (a : Addr) : It where
  go := fun i H => ∃ (xs : List V) (x : V), SqT K H a xs ∧ xs[i]? = some x
  yld := fun i H v H' => ∃ T x, v = .ref T ∧ H T = none ∧ H' = upd H T (.tup [.int (i : Nat), x]) ∧ ∀ xs, SqT K H a xs → xs[i]? = some x
  stop := fun i H => ∃ xs : List V, SqT K H a xs ∧ xs.length ≤ i
theorem turn_enumT {P : Program} {w : World} {K : PySem.W.Frag} {elts : List Expr} {kk : Nat} {tpos : Pos} (a e it : Addr) (hae : a ≠ e) (hai : a ≠ it) :
    Turn P w K (.Tuple elts kk tpos) (IteT K a) [e, it] e (fun i h => (∃ old, IsEnum h e it ((i : Nat) : Int) old) ∧ h.IsTupleIter it a i ∧ e ≠ it) where
  mem := by simp
  obj := fun i h st b hb => by
    obtain ⟨⟨old, he⟩, ⟨o, ho, hc, hd⟩, _⟩ := st
    rcases (show b = e ∨ b = it by simpa using hb) with rfl | rfl
    · exact ⟨_, he, fun v q => nomatch q⟩
    · exact ⟨o, ho, fun v q => by rw [hd] at q; cases q⟩
  keep := fun i h h' st k => by
    obtain ⟨⟨old, he⟩, hi, hne⟩ := st
    exact ⟨⟨old, k e (by simp) _ he⟩, hi.at fun o q => k it (by simp) o q, hne⟩
  item := by
    intro X hP hw hK hc i pins s σ H E I hf st hg
    subst hP hw hK
    obtain ⟨⟨old, he⟩, hit, hne⟩ := st
    obtain ⟨xs, x, hq, hx⟩ := hg
    obtain ⟨its, rv, p, hz⟩ := I.tuple hq
    obtain ⟨u, hu, ru⟩ := rv.get hx
    have hel : e < s.heap.objs.size := Heap.lt_size he
    have hil : it < s.heap.objs.size := by
      obtain ⟨_, q, _⟩ := hit
      exact Heap.lt_size q
    have hlt : i < its.toArray.size := by
      have z := (List.getElem?_eq_some_iff.mp hu).1
      simpa using z
    refine wpAny_pyNext_enum_itemD (Draws.tuple (prog := X.prog) (w := X.w) (A := X.A.in1) (I.ok.hd hc) it a hai its.toArray) he ⟨hit, (show s.heap.IsTuple a its.toArray from p)⟩ hlt hne (by simp [hne, Ne.symm hae]) fun y h' tk hy ho hst hT hsz hk => ?_
    obtain rfl : y = u := by
      have z : its.toArray[i]? = some u := by simpa using hu
      exact Option.some.inj (hy.symm.trans z)
    refine ⟨_, rfl, wpAny_letOwnedTupleGo_enum (s := { s with heap := h', toks := tk + 1 }) ho fun h'' he' sb => ?_⟩
    have hT2 : h''.get? s.heap.objs.size = some { cls := .type "tuple", data := .seq #[.int i tk, y] } := (sb.2 _ (Nat.ne_of_gt hel)).trans hT
    have new : ObjOk X.prog X.w (upd H s.heap.objs.size (.tup [.int (i : Nat), x])) h'' s.heap.objs.size (.tup [.int (i : Nat), x]) := ⟨by show 2 ≤ sizeLine; decide, [.int i tk, y], .cons ⟨_, rfl⟩ (.cons ru .nil), ⟨_, hT2, rfl, _, rfl⟩⟩
    have I1 : Inv X pins σ (upd H s.heap.objs.size (.tup [.int (i : Nat), x])) { s with heap := h'', toks := tk + 1 } := by
      refine I.turnedNew (ch := [e, it]) (fun b ob hb q => ?_) hf (Nat.le_refl _) new
      have n1 : b ≠ e := fun z => hb (by simp [z])
      have n2 : b ≠ it := fun z => hb (by simp [z])
      exact (sb.2 b n1).trans (hk b ob n1 n2 q)
    refine ⟨.ref s.heap.objs.size, _, I1, rfl, ⟨_, x, rfl, I.hok.fresh (Nat.le_refl _), rfl, fun ys hy => ?_⟩, ⟨⟨y, ?_⟩, ?_, hne⟩, fun b hb => ?_⟩
    · rw [I.tuple_inj hy hq]
      exact hx
    · have e1 : ((i + 1 : Nat) : Int) = (i : Int) + 1 := by omega
      rw [e1]
      exact he'
    · exact hst.1.at fun o q => (sb.2 it (Ne.symm hne)).trans q
    · have hb' : b < s.heap.objs.size := by
        rcases (show b = e ∨ b = it by simpa using hb) with rfl | rfl
        · exact hel
        · exact hil
      rw [upd_ne (Nat.ne_of_lt hb')]
      exact (hf b hb).1
  done := by
    intro X hP hw hK hc i pins s σ H E I hf st hg
    subst hP hw hK
    obtain ⟨⟨old, he⟩, hit, hne⟩ := st
    obtain ⟨xs, hq, hx⟩ := hg
    obtain ⟨its, rv, p, hz⟩ := I.tuple hq
    obtain ⟨f0, f1, f2, f3, f4, f5⟩ := hf it (by simp)
    have hl := rv.length
    have hT : s.TypeIs (.ref e) "enumerate" := ⟨_, he, rfl⟩
    unfold pyNext
    refine wpAny_bind (wpAny_attempt (wpAny_callSpecial?_slot (name := Str.ofString "__next__") hT F.slot_enumerate_next (wpAny_call_entry F.slot_enumerate_next hT F.entry_enumerate_next ?_ (F.args_enumerate_next_1 _))))
    show wpAny _ _ (field (.ref e) 2 >>= _) _ _ _
    refine wpAny_bind (wpAny_field he rfl (x := .ref it) rfl ?_)
    refine wpAny_bind (wpAny_nextOf_tuple_end (I.ok.hd hc) hit (show s.heap.IsTuple a its.toArray from p) (by simp; omega) fun h' x he' hx' => ?_)
    obtain ⟨o, ho, hcl⟩ := hx'
    refine wpAny_bind (wpAny_isInstance (T := "StopIteration") (b := true) ⟨o, ho, hcl⟩ isSubtype_stop (wpAny_pure ?_))
    exact ⟨rfl, I.turned (t' := s.toks) (fun b o hb q => he' b o hb q) f0 f1 f3 f4 f5⟩
  self := fun A i s Q E st h => by
    obtain ⟨⟨_, he⟩, _⟩ := st
    exact wpAny_pyIter_enum he h
def iEnumT (K : PySem.W.Frag) (ta : TA) : TI := fun σ H R => ta σ H fun vs H1 => ∃ a xs, vs = [.ref a] ∧ SqT K H1 a xs ∧ R (IteT K a) H1
theorem pi_enumT {X : Cx} {e : Expr} {ta : TA} {p pos tpos : Pos} {elts : List Expr} {kk : Nat} (hg : Gl X "enumerate") (hm : X.mg "enumerate" = none) (ha : PA X [e] ta) (hs : starEach [e] X.env = [(false, eval e X.env)] := by rfl) :
    PI X (.Tuple elts kk tpos) (.Call (.Name "enumerate" p) [e] [] pos) (iEnumT X.K ta) := by
  refine ⟨fun pins s σ H R I h => Call_ (ld_blt I hg hm boot_enumerate (PyProof.Rows.callWith_type1 (thn (ha.run pos pins s σ H _ I h) fun us s1 hh => ?_) hs rfl))⟩
  obtain ⟨vs, H1, I1, r1, a, xs, ex, hq, q⟩ := hh
  subst ex
  cases r1 with
  | cons r rr =>
    cases rr
    cases r
    obtain ⟨its, rv, p', hz⟩ := I1.tuple hq
    have hal : a < s1.heap.objs.size := p'.lt
    refine enumT_call (show s1.heap.IsTuple a its.toArray from p') fun h' he hit hk => wpAny_pyIter_enum he ?_
    have I2 : Inv X pins σ H1 { s1 with heap := h' } := I1.kept (t' := s1.toks) hk
    refine ⟨s1.heap.objs.size + 1, [s1.heap.objs.size + 1, s1.heap.objs.size], _, _, H1, rfl, I2, turn_enumT a (s1.heap.objs.size + 1) s1.heap.objs.size (Nat.ne_of_lt (Nat.lt_succ_of_lt hal)) (Nat.ne_of_lt hal), ⟨⟨.none, he⟩, hit, Nat.succ_ne_self _⟩, fun b hb => ?_, q⟩
    have hle : s1.heap.objs.size ≤ b := by
      rcases (show b = s1.heap.objs.size + 1 ∨ b = s1.heap.objs.size by simpa using hb) with z | z
      · rw [z]
        exact Nat.le_succ _
      · rw [z]
        exact Nat.le_refl _
    exact I1.fpOk hle (I1.hok.fresh hle)
theorem walk_enumT {K : PySem.W.Frag} {a : Addr} {xs : List V} : Walk (IteT K a) xs.length (fun H => SqT K H a xs) (YPair (fun i => some (.int (i : Nat))) (fun i => xs[i]?)) := by
  refine ⟨fun i _ hi q => ⟨xs, xs[i], q, List.getElem?_eq_getElem hi⟩, fun _ q => ⟨xs, q, Nat.le_refl _⟩, fun i H v H' _ q y => ?_⟩
  obtain ⟨T, x, h1, h2, h3, h4⟩ := y
  exact ⟨T, .int (i : Nat), x, h1, h2, h3, rfl, h4 xs q⟩
end Aq
set_option maxHeartbeats 4000000
/-! what a for walks: a list or a tuple, whichever comes -/
namespace Aq
open PySem PySem.Spec PyProof.Rows L2
def iSeq (K : PySem.W.Frag) (tl : TE) : TI := fun σ H R => tl σ H fun x H1 => ∃ a xs, x = .ref a ∧ ((SqL K H1 a xs ∧ R (Itl K a) H1) ∨ (SqT K H1 a xs ∧ R (Itt K a) H1))
theorem pi_seq {X : Cx} {tg l : Expr} {tl : TE} (hl : PE X l tl) : PI X tg l (iSeq X.K tl) := by
  refine ⟨fun pins s σ H R I h => thn (hl.run pins s σ H _ I h) fun v s1 hh => ?_⟩
  obtain ⟨x, H1, I1, r1, a, xs, rfl, hq⟩ := hh
  cases r1
  have fp : ∀ b ∈ [s1.heap.objs.size], FpOk X pins H1 b := fun b hb => by
    rw [List.mem_singleton.mp hb]
    exact I1.fpOk (Nat.le_refl _) (I1.hok.fresh (Nat.le_refl _))
  rcases hq with ⟨hq, q⟩ | ⟨hq, q⟩
  · obtain ⟨its, rv, p, hz⟩ := I1.list hq
    exact wpAny_pyIter_list p.isList ⟨s1.heap.objs.size, [s1.heap.objs.size], _, _, H1, rfl, I1.kept (t' := s1.toks) fun b o e => Heap.get?_push_of_some _ e, turn_list a _, ⟨_, Heap.get?_push_size _ rfl, rfl, rfl⟩, fp, q⟩
  · obtain ⟨its, rv, p, hz⟩ := I1.tuple hq
    exact wpAny_pyIter_tuple (show s1.heap.IsTuple a its.toArray from p) ⟨s1.heap.objs.size, [s1.heap.objs.size], _, _, H1, rfl, I1.kept (t' := s1.toks) fun b o e => Heap.get?_push_of_some _ e, turn_tuple a _, ⟨_, Heap.get?_push_size _ rfl, rfl, rfl⟩, fp, q⟩
def iEnumS (K : PySem.W.Frag) (ta : TA) : TI := fun σ H R => ta σ H fun vs H1 => ∃ a xs, vs = [.ref a] ∧ ((SqL K H1 a xs ∧ R (Ite K a) H1) ∨ (SqT K H1 a xs ∧ R (IteT K a) H1))
theorem pi_enumS {X : Cx} {e : Expr} {ta : TA} {p pos tpos : Pos} {elts : List Expr} {kk : Nat} (hg : Gl X "enumerate") (hm : X.mg "enumerate" = none) (ha : PA X [e] ta) (hs : starEach [e] X.env = [(false, eval e X.env)] := by rfl) :
    PI X (.Tuple elts kk tpos) (.Call (.Name "enumerate" p) [e] [] pos) (iEnumS X.K ta) := by
  refine ⟨fun pins s σ H R I h => Call_ (ld_blt I hg hm boot_enumerate (PyProof.Rows.callWith_type1 (thn (ha.run pos pins s σ H _ I h) fun us s1 hh => ?_) hs rfl))⟩
  obtain ⟨vs, H1, I1, r1, a, xs, ex, hq⟩ := hh
  subst ex
  cases r1 with
  | cons r rr =>
    cases rr
    cases r
    have fp : ∀ b ∈ [s1.heap.objs.size + 1, s1.heap.objs.size], FpOk X pins H1 b := fun b hb => by
      have hle : s1.heap.objs.size ≤ b := by
        rcases (show b = s1.heap.objs.size + 1 ∨ b = s1.heap.objs.size by simpa using hb) with z | z
        · rw [z]
          exact Nat.le_succ _
        · rw [z]
          exact Nat.le_refl _
      exact I1.fpOk hle (I1.hok.fresh hle)
    rcases hq with ⟨hq, q⟩ | ⟨hq, q⟩
    · obtain ⟨its, rv, p', hz⟩ := I1.list hq
      refine call_enumerate_list p'.isList fun h' he hit hsz hk => wpAny_pyIter_enum he ?_
      have I2 : Inv X pins σ H1 { s1 with heap := h' } := I1.kept (t' := s1.toks) hk
      exact ⟨s1.heap.objs.size + 1, [s1.heap.objs.size + 1, s1.heap.objs.size], _, _, H1, rfl, I2, turn_enum a (s1.heap.objs.size + 1) s1.heap.objs.size, ⟨⟨.none, he⟩, hit, Nat.succ_ne_self _⟩, fp, q⟩
    · obtain ⟨its, rv, p', hz⟩ := I1.tuple hq
      have hal : a < s1.heap.objs.size := p'.lt
      refine enumT_call (show s1.heap.IsTuple a its.toArray from p') fun h' he hit hk => wpAny_pyIter_enum he ?_
      have I2 : Inv X pins σ H1 { s1 with heap := h' } := I1.kept (t' := s1.toks) hk
      exact ⟨s1.heap.objs.size + 1, [s1.heap.objs.size + 1, s1.heap.objs.size], _, _, H1, rfl, I2, turn_enumT a (s1.heap.objs.size + 1) s1.heap.objs.size (Nat.ne_of_lt (Nat.lt_succ_of_lt hal)) (Nat.ne_of_lt hal), ⟨⟨.none, he⟩, hit, Nat.succ_ne_self _⟩, fp, q⟩
/-- a, b, .. = a list or a tuple -/
def gSeq (K : PySem.W.Frag) (n : Nat) (t : TGs) : TG := fun v σ H Q => ∃ a xs, v = .ref a ∧ (SqL K H a xs ∨ SqT K H a xs) ∧ xs.length = n ∧ t xs σ H Q
theorem pg_seq {X : Cx} {pos : Pos} {es : List Expr} {k : Nat} {t : TGs} {n : Nat} (hc : X.calm = true) (h : PGs X es t) (hn : (assignEach es X.env).length = n := by rfl) (hst : (assignEach es X.env).findIdx? (·.1) = none := by rfl) : PG X (.Tuple es k pos) (gSeq X.K n t) := by
  refine ⟨fun pins s σ H v u Q I r hw => ?_⟩
  obtain ⟨a, xs, e, hs, hl, q⟩ := hw
  rcases hs with hs | hs
  · exact (pg_unl hc h hn hst).run pins s σ H v u Q I r ⟨a, xs, e, hs, hl, q⟩
  · exact (pg_tup hc h hn hst).run pins s σ H v u Q I r ⟨a, xs, e, hs, hl, q⟩
/-! the loops over it -/
def SqA (K : PySem.W.Frag) (H : Hp) (a : Addr) (xs : List V) : Prop := SqL K H a xs ∨ SqT K H a xs
theorem SqA.same {K : PySem.W.Frag} {H H' : Hp} {a : Addr} {xs : List V} (e : Same H H') (h : SqA K H a xs) : SqA K H' a xs := h.elim (fun z => .inl (e.seq z)) fun z => .inr (Same.sqT e z)
section
variable {K : PySem.W.Frag} {a : Addr} {xs : List V} {g : TG} {tb : TS} {D : Ends} {σ : L2.St} {H0 H : Hp} {te : TE} {tt : TT} {vs : List Nat} {i : Nat}
theorem for_seq {tl : TE} (hl : ∀ Q : VK, Q (.ref a) H → tl σ H Q) (h : SqA K H0 a xs) (h00 : Same H0 H) (Pv : Nat → L2.St → Hp → Prop) (h0 : Pv 0 σ H) (hsame : ∀ i σ' H', Pv i σ' H' → Same H0 H')
    (hs : ∀ i x σ' H', xs[i]? = some x → Pv i σ' H' → g x σ' H' fun σ2 H2 => tb { D with nx := Pv (i + 1), ct := Pv (i + 1), bk := D.nx } σ2 H2) (hd : ∀ σ' H', Pv xs.length σ' H' → D.nx σ' H') : tFor (iSeq K tl) g tb D σ H :=
  hl _ ⟨a, xs, rfl, h.elim (fun z => .inl ⟨h00.seq z, for_list Pv h0 (fun i σ' H' _ p => (hsame i σ' H' p).seq z) hs hd⟩) fun z => .inr ⟨Same.sqT h00 z, for_tup Pv h0 (fun i σ' H' _ p => Same.sqT (hsame i σ' H' p) z) hs hd⟩⟩
theorem for_enum {ta : TA} (hl : ∀ Q : List V → Hp → Prop, Q [.ref a] H → ta σ H Q) (h : SqA K H0 a xs) (h00 : Same H0 H) (Pv : Nat → L2.St → Hp → Prop) (h0 : Pv 0 σ H) (hsame : ∀ i σ' H', Pv i σ' H' → Same H0 H')
    (hs : ∀ (i : Nat) (x : V) σ' H' T, xs[i]? = some x → Pv i σ' H' → H' T = none → g (.ref T) σ' (upd H' T (.tup [.int (i : Nat), x])) fun σ2 H2 => tb { D with nx := Pv (i + 1), ct := Pv (i + 1), bk := D.nx } σ2 H2) (hd : ∀ σ' H', Pv xs.length σ' H' → D.nx σ' H') : tFor (iEnumS K ta) g tb D σ H := by
  have turn : ∀ i x σ' H' H'', i < xs.length → Pv i σ' H' → YPair (fun i => some (.int (i : Nat))) (fun i => xs[i]?) i H' x H'' → g x σ' H'' fun σ2 H2 => tb { D with nx := Pv (i + 1), ct := Pv (i + 1), bk := D.nx } σ2 H2 := fun i x σ' H' H'' hi p y => by
    obtain ⟨T, x1, x2, rfl, nT, rfl, e1, e2⟩ := y
    cases Option.some.inj e1
    exact hs i x2 σ' H' T e2 p nT
  exact hl _ ⟨a, xs, rfl, h.elim (fun z => .inl ⟨h00.seq z, for_it walk_enum Pv h0 (fun i σ' H' _ p => (hsame i σ' H' p).seq z) turn hd⟩) fun z => .inr ⟨Same.sqT h00 z, for_it walk_enumT Pv h0 (fun i σ' H' _ p => Same.sqT (hsame i σ' H' p) z) turn hd⟩⟩
theorem lc_seq {tl : TE} {Q : VK} (hl : ∀ Q : VK, Q (.ref a) H → tl σ H Q) (h : SqA K H0 a xs) (h00 : Same H0 H) (Pv : Addr → Nat → Hp → Prop) (h0 : ∀ D, H D = none → Pv D 0 (upd H D (.lst []))) (hsame : ∀ D i H', Pv D i H' → Same H0 H')
    (hs : ∀ D i x H', xs[i]? = some x → Pv D i H' → g x (wipe σ vs) H' fun σ2 H2 => wipe σ2 vs = wipe σ vs ∧ tt σ2 H2 fun b H3 =>
      if b = true then te σ2 H3 fun y H4 => ∃ acc, H4 D = some (.lst acc) ∧ acc.length < sizeLine ∧ Pv D (i + 1) (upd H4 D (.lst (acc ++ [y]))) else Pv D (i + 1) H3) (hd : ∀ D H', Pv D xs.length H' → Q (.ref D) H') : tLc (iSeq K tl) g tt te vs σ H Q :=
  hl _ ⟨a, xs, rfl, h.elim (fun z => .inl ⟨h00.seq z, fun D hD => lc_list (Pv D) (h0 D hD) (fun i H' _ p => (hsame D i H' p).seq z) (hs D) (hd D)⟩) fun z => .inr ⟨Same.sqT h00 z, fun D hD => lc_tup (Pv D) (h0 D hD) (fun i H' _ p => Same.sqT (hsame D i H' p) z) (hs D) (hd D)⟩⟩
end
end Aq
set_option maxHeartbeats 4000000
namespace Aq
open PySem PySem.Spec PyProof.Rows L2
/-- how long it is; a whole number of one -/
def rLn (K : PySem.W.Frag) : List V → Hp → VK → Prop := fun xs H Q => ∃ p ys, xs = [.ref p] ∧ (SqL K H p ys ∨ SqT K H p ys) ∧ Q (.int ys.length) H
def rInt1 : List V → Hp → VK → Prop := fun xs H Q => (∃ i, xs = [.int i] ∧ Q (.int i) H) ∨ ∃ k, xs = [.bl k] ∧ Q (.int (if k then 1 else 0)) H
section
variable {K : PySem.W.Frag} {a : Addr} {xs : List V} {g : TG} {σ : L2.St} {H0 H : Hp} {te : TE} {tt : TT} {vs : List Nat}
theorem lc_enum {ta : TA} {Q : VK} (hl : ∀ Q : List V → Hp → Prop, Q [.ref a] H → ta σ H Q) (h : SqA K H0 a xs) (h00 : Same H0 H) (Pv : Addr → Nat → Hp → Prop) (h0 : ∀ D, H D = none → Pv D 0 (upd H D (.lst []))) (hsame : ∀ D i H', Pv D i H' → Same H0 H')
    (hs : ∀ D (i : Nat) x H' T, xs[i]? = some x → Pv D i H' → H' T = none → g (.ref T) (wipe σ vs) (upd H' T (.tup [.int (i : Nat), x])) fun σ2 H2 => wipe σ2 vs = wipe σ vs ∧ tt σ2 H2 fun b H3 =>
      if b = true then te σ2 H3 fun y H4 => ∃ acc, H4 D = some (.lst acc) ∧ acc.length < sizeLine ∧ Pv D (i + 1) (upd H4 D (.lst (acc ++ [y]))) else Pv D (i + 1) H3) (hd : ∀ D H', Pv D xs.length H' → Q (.ref D) H') : tLc (iEnumS K ta) g tt te vs σ H Q := by
  have turn : ∀ D i x H' H'', i < xs.length → Pv D i H' → YPair (fun i => some (.int (i : Nat))) (fun i => xs[i]?) i H' x H'' → g x (wipe σ vs) H'' fun σ2 H2 => wipe σ2 vs = wipe σ vs ∧ tt σ2 H2 fun b H3 =>
      if b = true then te σ2 H3 fun y H4 => ∃ acc, H4 D = some (.lst acc) ∧ acc.length < sizeLine ∧ Pv D (i + 1) (upd H4 D (.lst (acc ++ [y]))) else Pv D (i + 1) H3 := fun D i x H' H'' hi p y => by
    obtain ⟨T, x1, x2, rfl, nT, rfl, e1, e2⟩ := y
    cases Option.some.inj e1
    exact hs D i x2 H' T e2 p nT
  exact hl _ ⟨a, xs, rfl, h.elim (fun z => .inl ⟨h00.seq z, fun D hD => lc_it walk_enum (Pv D) (h0 D hD) (fun i H' _ p => (hsame D i H' p).seq z) (turn D) (hd D)⟩) fun z => .inr ⟨Same.sqT h00 z, fun D hD => lc_it walk_enumT (Pv D) (h0 D hD) (fun i H' _ p => Same.sqT (hsame D i H' p) z) (turn D) (hd D)⟩⟩
end
end Aq
namespace Aq
open PySem PySem.Spec PyProof.Rows L2
def topS (i : Nat) : Stmt := PySem.Challenge.pw_anyrowline_k04_lines_with_any_row.main.body.getD i (.Pass ⟨0, 0, 0, 0⟩)
abbrev s_BadValue___init__ : Stmt := inClass (topS 2) 0
theorem sc_BadValue___init__ : FnScope ["self", "at"] ["self", "at"] (defScope s_BadValue___init__) := ⟨rfl, rfl, rfl, by decide +kernel, rfl, by decide +kernel, by decide +kernel⟩
abbrev s_BadTask___init__ : Stmt := inClass (topS 3) 0
theorem sc_BadTask___init__ : FnScope ["self", "at"] ["self", "at"] (defScope s_BadTask___init__) := ⟨rfl, rfl, rfl, by decide +kernel, rfl, by decide +kernel, by decide +kernel⟩
abbrev s_BadPair___init__ : Stmt := inClass (topS 4) 0
theorem sc_BadPair___init__ : FnScope ["self", "at"] ["self", "at"] (defScope s_BadPair___init__) := ⟨rfl, rfl, rfl, by decide +kernel, rfl, by decide +kernel, by decide +kernel⟩
abbrev s_BadModel___init__ : Stmt := inClass (topS 5) 0
theorem sc_BadModel___init__ : FnScope ["self", "at"] ["self", "at"] (defScope s_BadModel___init__) := ⟨rfl, rfl, rfl, by decide +kernel, rfl, by decide +kernel, by decide +kernel⟩
abbrev s_BadState___init__ : Stmt := inClass (topS 6) 0
theorem sc_BadState___init__ : FnScope ["self", "at"] ["self", "at"] (defScope s_BadState___init__) := ⟨rfl, rfl, rfl, by decide +kernel, rfl, by decide +kernel, by decide +kernel⟩
abbrev s_TooMany___init__ : Stmt := inClass (topS 7) 0
theorem sc_TooMany___init__ : FnScope ["self", "word"] ["self", "word"] (defScope s_TooMany___init__) := ⟨rfl, rfl, rfl, by decide +kernel, rfl, by decide +kernel, by decide +kernel⟩
abbrev s_is_integer : Stmt := topS 9
theorem sc_is_integer : FnScope ["value"] ["value"] (defScope s_is_integer) := ⟨rfl, rfl, rfl, by decide +kernel, rfl, by decide +kernel, by decide +kernel⟩
abbrev s_is_within : Stmt := topS 10
theorem sc_is_within : FnScope ["value", "low", "high"] ["value", "low", "high"] (defScope s_is_within) := ⟨rfl, rfl, rfl, by decide +kernel, rfl, by decide +kernel, by decide +kernel⟩
abbrev s_is_sequence : Stmt := topS 11
theorem sc_is_sequence : FnScope ["value"] ["value"] (defScope s_is_sequence) := ⟨rfl, rfl, rfl, by decide +kernel, rfl, by decide +kernel, by decide +kernel⟩
abbrev s_has_length : Stmt := topS 12
theorem sc_has_length : FnScope ["value", "low", "high"] ["value", "low", "high"] (defScope s_has_length) := ⟨rfl, rfl, rfl, by decide +kernel, rfl, by decide +kernel, by decide +kernel⟩
abbrev s_are_within : Stmt := topS 13
theorem sc_are_within : FnScope ["value", "low", "high", "number"] ["value", "low", "high"] (defScope s_are_within) := ⟨rfl, rfl, rfl, by decide +kernel, rfl, by decide +kernel, by decide +kernel⟩
abbrev s_is_ascending : Stmt := topS 14
theorem sc_is_ascending : FnScope ["value", "many", "least", "number"] ["value", "many"] (defScope s_is_ascending) := ⟨rfl, rfl, rfl, by decide +kernel, rfl, by decide +kernel, by decide +kernel⟩
abbrev s_Line___init__ : Stmt := inClass (topS 23) 0
theorem sc_Line___init__ : FnScope ["self", "tasks", "order", "models", "states", "start", "slips", "kept_tasks", "kept_order", "kept_models", "kept_states"] ["self", "tasks", "order", "models", "states", "start", "slips"] (defScope s_Line___init__) := ⟨rfl, rfl, rfl, by decide +kernel, rfl, by decide +kernel, by decide +kernel⟩
abbrev s_Line_tasks : Stmt := inClass (topS 23) 1
theorem sc_Line_tasks : FnScope ["self"] ["self"] (defScope s_Line_tasks) := ⟨rfl, rfl, rfl, by decide +kernel, rfl, by decide +kernel, by decide +kernel⟩
abbrev s_Line_order : Stmt := inClass (topS 23) 2
theorem sc_Line_order : FnScope ["self"] ["self"] (defScope s_Line_order) := ⟨rfl, rfl, rfl, by decide +kernel, rfl, by decide +kernel, by decide +kernel⟩
abbrev s_Line_models : Stmt := inClass (topS 23) 3
theorem sc_Line_models : FnScope ["self"] ["self"] (defScope s_Line_models) := ⟨rfl, rfl, rfl, by decide +kernel, rfl, by decide +kernel, by decide +kernel⟩
abbrev s_Line_states : Stmt := inClass (topS 23) 4
theorem sc_Line_states : FnScope ["self"] ["self"] (defScope s_Line_states) := ⟨rfl, rfl, rfl, by decide +kernel, rfl, by decide +kernel, by decide +kernel⟩
abbrev s_Line_start : Stmt := inClass (topS 23) 5
theorem sc_Line_start : FnScope ["self"] ["self"] (defScope s_Line_start) := ⟨rfl, rfl, rfl, by decide +kernel, rfl, by decide +kernel, by decide +kernel⟩
abbrev s_Line_slips : Stmt := inClass (topS 23) 6
theorem sc_Line_slips : FnScope ["self"] ["self"] (defScope s_Line_slips) := ⟨rfl, rfl, rfl, by decide +kernel, rfl, by decide +kernel, by decide +kernel⟩
abbrev s_Line___eq__ : Stmt := inClass (topS 23) 7
theorem sc_Line___eq__ : FnScope ["self", "other"] ["self", "other"] (defScope s_Line___eq__) := ⟨rfl, rfl, rfl, by decide +kernel, rfl, by decide +kernel, by decide +kernel⟩
abbrev s_is_slips : Stmt := topS 24
theorem sc_is_slips : FnScope ["value"] ["value"] (defScope s_is_slips) := ⟨rfl, rfl, rfl, by decide +kernel, rfl, by decide +kernel, by decide +kernel⟩
abbrev s_is_task : Stmt := topS 25
theorem sc_is_task : FnScope ["value", "usual", "upper"] ["value"] (defScope s_is_task) := ⟨rfl, rfl, rfl, by decide +kernel, rfl, by decide +kernel, by decide +kernel⟩
abbrev s_checked_tasks : Stmt := topS 26
theorem sc_checked_tasks : FnScope ["tasks", "at", "task"] ["tasks"] (defScope s_checked_tasks) := ⟨rfl, rfl, rfl, by decide +kernel, rfl, by decide +kernel, by decide +kernel⟩
abbrev s_is_pair : Stmt := topS 27
theorem sc_is_pair : FnScope ["value", "tasks"] ["value", "tasks"] (defScope s_is_pair) := ⟨rfl, rfl, rfl, by decide +kernel, rfl, by decide +kernel, by decide +kernel⟩
abbrev s_checked_order : Stmt := topS 28
theorem sc_checked_order : FnScope ["order", "tasks", "kept", "behind", "at", "pair", "before", "after"] ["order", "tasks"] (defScope s_checked_order) := ⟨rfl, rfl, rfl, by decide +kernel, rfl, by decide +kernel, by decide +kernel⟩
abbrev s_put_behind : Stmt := topS 29
theorem sc_put_behind : FnScope ["behind", "before", "after", "later", "task"] ["behind", "before", "after"] (defScope s_put_behind) := ⟨rfl, rfl, rfl, by decide +kernel, rfl, by decide +kernel, by decide +kernel⟩
abbrev s_checked_models : Stmt := topS 30
theorem sc_checked_models : FnScope ["models", "tasks", "at", "model"] ["models", "tasks"] (defScope s_checked_models) := ⟨rfl, rfl, rfl, by decide +kernel, rfl, by decide +kernel, by decide +kernel⟩
abbrev s_is_arc : Stmt := topS 31
theorem sc_is_arc : FnScope ["value", "models", "states"] ["value", "models", "states"] (defScope s_is_arc) := ⟨rfl, rfl, rfl, by decide +kernel, rfl, by decide +kernel, by decide +kernel⟩
abbrev s_is_state : Stmt := topS 32
theorem sc_is_state : FnScope ["value", "models", "states", "seen", "arc"] ["value", "models", "states"] (defScope s_is_state) := ⟨rfl, rfl, rfl, by decide +kernel, rfl, by decide +kernel, by decide +kernel⟩
abbrev s_checked_states : Stmt := topS 33
theorem sc_checked_states : FnScope ["states", "models", "at", "state", "arc"] ["states", "models"] (defScope s_checked_states) := ⟨rfl, rfl, rfl, by decide +kernel, rfl, by decide +kernel, by decide +kernel⟩
abbrev s_free_line : Stmt := topS 34
theorem sc_free_line : FnScope ["tasks", "order", "models", "slips", "many", "state", "model"] ["tasks", "order", "models", "slips"] (defScope s_free_line) := ⟨rfl, rfl, rfl, by decide +kernel, rfl, by decide +kernel, by decide +kernel⟩
abbrev s__law_so : Stmt := topS 36
theorem sc__law_so : FnScope ["found", "meant", "k"] ["found", "meant"] (defScope s__law_so) := ⟨rfl, rfl, rfl, by decide +kernel, rfl, by decide +kernel, by decide +kernel⟩
abbrev s__law_numbers : Stmt := topS 37
theorem sc__law_numbers : FnScope ["script", "row", "cell", "left", "k", "mixed"] ["script"] (defScope s__law_numbers) := ⟨rfl, rfl, rfl, by decide +kernel, rfl, by decide +kernel, by decide +kernel⟩
abbrev s__law_draw : Stmt := topS 38
theorem sc__law_draw : FnScope ["row", "at", "limit", "mixed"] ["row", "at", "limit"] (defScope s__law_draw) := ⟨rfl, rfl, rfl, by decide +kernel, rfl, by decide +kernel, by decide +kernel⟩
abbrev s__law_take : Stmt := topS 39
theorem sc__law_take : FnScope ["row", "spot", "limit"] ["row", "spot", "limit"] (defScope s__law_take) := ⟨rfl, rfl, rfl, by decide +kernel, rfl, by decide +kernel, by decide +kernel⟩
abbrev s__law_wide : Stmt := topS 40
theorem sc__law_wide : FnScope ["row", "spot", "limit", "first", "second", "third"] ["row", "spot", "limit"] (defScope s__law_wide) := ⟨rfl, rfl, rfl, by decide +kernel, rfl, by decide +kernel, by decide +kernel⟩
abbrev s__law_loose : Stmt := topS 41
theorem sc__law_loose : FnScope ["value", "turn", "made", "one"] ["value", "turn"] (defScope s__law_loose) := ⟨rfl, rfl, rfl, by decide +kernel, rfl, by decide +kernel, by decide +kernel⟩
abbrev s__law_mixed : Stmt := topS 42
theorem sc__law_mixed : FnScope ["row", "spot", "things", "left", "made", "k", "at"] ["row", "spot", "things"] (defScope s__law_mixed) := ⟨rfl, rfl, rfl, by decide +kernel, rfl, by decide +kernel, by decide +kernel⟩
abbrev s__law_time : Stmt := topS 43
theorem sc__law_time : FnScope ["row", "spot", "style"] ["row", "spot", "style"] (defScope s__law_time) := ⟨rfl, rfl, rfl, by decide +kernel, rfl, by decide +kernel, by decide +kernel⟩
abbrev s__law_task : Stmt := topS 44
theorem sc__law_task : FnScope ["row", "spot", "style", "usual"] ["row", "spot", "style"] (defScope s__law_task) := ⟨rfl, rfl, rfl, by decide +kernel, rfl, by decide +kernel, by decide +kernel⟩
abbrev s__law_pairs_of : Stmt := topS 45
theorem sc__law_pairs_of : FnScope ["row", "spot", "count", "many", "spots", "made", "k", "one", "other", "pair"] ["row", "spot", "count", "many"] (defScope s__law_pairs_of) := ⟨rfl, rfl, rfl, by decide +kernel, rfl, by decide +kernel, by decide +kernel⟩
abbrev s__law_model : Stmt := topS 46
theorem sc__law_model : FnScope ["row", "spot", "count", "style", "k"] ["row", "spot", "count"] (defScope s__law_model) := ⟨rfl, rfl, rfl, by decide +kernel, rfl, by decide +kernel, by decide +kernel⟩
abbrev s__law_states : Stmt := topS 47
theorem sc__law_states : FnScope ["row", "spot", "models", "wide", "many", "count", "made", "k", "arcs", "j", "arc"] ["row", "spot", "models", "wide", "many"] (defScope s__law_states) := ⟨rfl, rfl, rfl, by decide +kernel, rfl, by decide +kernel, by decide +kernel⟩
abbrev s__law_line : Stmt := topS 48
theorem sc__law_line : FnScope ["row", "spot", "tasks", "wide", "many", "slips", "style", "count", "jobs", "pairs", "kinds", "states", "start", "left", "k"] ["row", "spot", "tasks", "wide", "many", "slips"] (defScope s__law_line) := ⟨rfl, rfl, rfl, by decide +kernel, rfl, by decide +kernel, by decide +kernel⟩
abbrev s__law_same : Stmt := topS 49
theorem sc__law_same : FnScope ["told", "line"] ["told", "line"] (defScope s__law_same) := ⟨rfl, rfl, rfl, by decide +kernel, rfl, by decide +kernel, by decide +kernel⟩
abbrev s__law_case : Stmt := topS 50
theorem sc__law_case : FnScope ["row", "spot", "style"] ["row", "spot"] (defScope s__law_case) := ⟨rfl, rfl, rfl, by decide +kernel, rfl, by decide +kernel, by decide +kernel⟩
abbrev s_law : Stmt := topS 51
theorem sc_law : FnScope ["script", "row", "spot", "line", "states", "told", "k"] ["script"] (defScope s_law) := ⟨rfl, rfl, rfl, by decide +kernel, rfl, by decide +kernel, by decide +kernel⟩
structure Txt (K : PySem.W.Frag) (mg : Str → Option Value) : Prop where
  z_len : mg "len" = none
  z_int : mg "int" = none
  z_bool : mg "bool" = none
  z_str : mg "str" = none
  z_tuple : mg "tuple" = none
  z_list : mg "list" = none
  z_range : mg "range" = none
  z_isinstance : mg "isinstance" = none
  z_min : mg "min" = none
  z_max : mg "max" = none
  d__law_so : Df K mg "_law_so" s__law_so ["found", "meant"]
  d__law_numbers : Df K mg "_law_numbers" s__law_numbers ["script"]
  d__law_draw : Df K mg "_law_draw" s__law_draw ["row", "at", "limit"]
  d__law_take : Df K mg "_law_take" s__law_take ["row", "spot", "limit"]
  d__law_loose : Df K mg "_law_loose" s__law_loose ["value", "turn"]
  d__law_mixed : Df K mg "_law_mixed" s__law_mixed ["row", "spot", "things"]
  d__law_time : Df K mg "_law_time" s__law_time ["row", "spot", "style"]
  d__law_task : Df K mg "_law_task" s__law_task ["row", "spot", "style"]
  d__law_pairs_of : Df K mg "_law_pairs_of" s__law_pairs_of ["row", "spot", "count", "many"]
  d__law_model : Df K mg "_law_model" s__law_model ["row", "spot", "count"]
  d__law_states : Df K mg "_law_states" s__law_states ["row", "spot", "models", "wide", "many"]
  d__law_line : Df K mg "_law_line" s__law_line ["row", "spot", "tasks", "wide", "many", "slips"]
  d__law_same : Df K mg "_law_same" s__law_same ["told", "line"]
  d__law_case : Df K mg "_law_case" s__law_case ["row", "spot"]
  d_is_integer : Df K mg "is_integer" s_is_integer ["value"]
  d_is_within : Df K mg "is_within" s_is_within ["value", "low", "high"]
  d_is_sequence : Df K mg "is_sequence" s_is_sequence ["value"]
  d_has_length : Df K mg "has_length" s_has_length ["value", "low", "high"]
  d_are_within : Df K mg "are_within" s_are_within ["value", "low", "high"]
  d_is_ascending : Df K mg "is_ascending" s_is_ascending ["value", "many"]
  d_is_slips : Df K mg "is_slips" s_is_slips ["value"]
  d_is_task : Df K mg "is_task" s_is_task ["value"]
  d_checked_tasks : Df K mg "checked_tasks" s_checked_tasks ["tasks"]
  d_is_pair : Df K mg "is_pair" s_is_pair ["value", "tasks"]
  d_checked_order : Df K mg "checked_order" s_checked_order ["order", "tasks"]
  d_put_behind : Df K mg "put_behind" s_put_behind ["behind", "before", "after"]
  d_checked_models : Df K mg "checked_models" s_checked_models ["models", "tasks"]
  d_is_arc : Df K mg "is_arc" s_is_arc ["value", "models", "states"]
  d_is_state : Df K mg "is_state" s_is_state ["value", "models", "states"]
  d_checked_states : Df K mg "checked_states" s_checked_states ["states", "models"]
  z_all : mg "all" = none
  z_enumerate : mg "enumerate" = none
  m_MOST_TASKS : ∃ u, mg "MOST_TASKS" = some u ∧ RelV (.int 24) u
  m_MOST_TIME : ∃ u, mg "MOST_TIME" = some u ∧ RelV (.int 10000) u
  m_MOST_PAIRS : ∃ u, mg "MOST_PAIRS" = some u ∧ RelV (.int 200) u
  m_MOST_MODELS : ∃ u, mg "MOST_MODELS" = some u ∧ RelV (.int 8) u
  m_MOST_STATES : ∃ u, mg "MOST_STATES" = some u ∧ RelV (.int 60) u
  m_MOST_ARCS : ∃ u, mg "MOST_ARCS" = some u ∧ RelV (.int 40) u
  m_MOST_SLIPS : ∃ u, mg "MOST_SLIPS" = some u ∧ RelV (.int 8) u
  d__law_wide : Df K mg "_law_wide" s__law_wide ["row", "spot", "limit"]
section
variable {P : Program} {w : World} {K : PySem.W.Frag} {mg : Str → Option Value} {base : Heap}
theorem c_draw (T : Txt K mg) : C8.Cal P w K mg base 1 "_law_draw" spDraw [] := by
  refine T.d__law_draw.cal sc__law_draw (fun vs H Q E h => ?_) (fun f cdv A outer s H vs Q E hr h => ?_)
  · obtain ⟨a, n, m, rfl, _⟩ := h
    rfl
  · obtain ⟨a, n, m, rfl, ⟨ns, hR, hl, hl2⟩, hn, hm, q⟩ := h
    have hS : SqL K H a (ns.map V.int) := SqL.of hR
    refine ⟨_, (pss_cons (ps_if (pt_cmpR op_lt (pv 1) (pe_callB call_len_seq (by rfl) T.z_len (by decide +kernel) (pa_cons (pv 0) pa_nil)) (nomark _))
    (pss_one (ps_ret (pe_op op_mod (pe_callTy call_int1 (by rfl) T.z_int (by decide +kernel) (pa_cons (pe_ix ix_list (pv 0) (pv 1) (fun _ _ => rfl)) pa_nil)) (pv 2))))
    pss_nil)
  (pss_cons (ps_set (i := 3) sc__law_draw.nd rfl (.inl rfl) (pe_op op_mod (pe_callTy call_int1 (by rfl) T.z_int (by decide +kernel) (pa_cons (pe_op op_add (pe_op op_add (pe_op op_mul (pe_ix ix_list (pv 0) (pe_op op_mod (pe_callTy call_int1 (by rfl) T.z_int (by decide +kernel) (pa_cons (pv 1) pa_nil)) (pe_callB call_len_seq (by rfl) T.z_len (by decide +kernel) (pa_cons (pv 0) pa_nil))) (fun _ _ => rfl)) pe_int) (pe_op op_mul (pv 1) pe_int)) pe_int) pa_nil)) pe_int))
  (pss_one (ps_ret (pe_op op_mod (pe_callTy call_int1 (by rfl) T.z_int (by decide +kernel) (pa_cons (pe_op op_mod (pe_callTy call_int1 (by rfl) T.z_int (by decide +kernel) (pa_cons (pe_op op_add (pe_op op_mul (pv 3) pe_int) (pv 1)) pa_nil)) pe_int) pa_nil)) (pv 2)))))), ?_⟩
    refine ⟨_, rfl, _, rfl, a, _, rfl, .inl hS, _, _, rfl, rfl, _, rfl, ite2 (fun e => ?_) (fun e => ?_)⟩
    · have e' : n < ((ns.map V.int).length : Int) := of_decide_eq_true e
      rw [List.length_map] at e'
      obtain ⟨j, rfl⟩ : ∃ j : Nat, n = (j : Int) := ⟨n.toNat, by omega⟩
      have hj : j < ns.length := by omega
      have g : (ns.map V.int)[j]? = some (.int ns[j]) := by
        rw [List.getElem?_map, List.getElem?_eq_getElem hj]
        rfl
      exact ⟨_, rfl, _, rfl, a, _, _, _, rfl, rfl, hS, atI_nat g, .inl ⟨_, rfl, _, rfl, _, _, rfl, rfl, hm, q _ (Int.emod_nonneg _ (by omega)) (Int.emod_lt_of_pos _ hm)⟩⟩
    · have hp : (0 : Int) < ((ns.map V.int).length : Int) := by
        rw [List.length_map]
        omega
      obtain ⟨j, ej⟩ : ∃ j : Nat, n % ((ns.map V.int).length : Int) = (j : Int) := ⟨(n % ((ns.map V.int).length : Int)).toNat, by have := Int.emod_nonneg n (show ((ns.map V.int).length : Int) ≠ 0 by omega); omega⟩
      have hj : j < ns.length := by
        have := Int.emod_lt_of_pos n hp
        rw [List.length_map] at this ej
        omega
      have g : (ns.map V.int)[j]? = some (.int ns[j]) := by
        rw [List.getElem?_map, List.getElem?_eq_getElem hj]
        rfl
      refine ⟨_, rfl, _, rfl, .inl ⟨_, rfl, _, rfl, a, _, rfl, .inl hS, _, _, rfl, rfl, hp, a, _, _, _, rfl, rfl, hS, at_of ej g, _, _, rfl, rfl, .inr (by decide), _, rfl, _, _, rfl, rfl, .inr (by decide), _, _, rfl, rfl, _, _, rfl, rfl, .inl ⟨_, rfl, _, _, rfl, rfl, (by show (0 : Int) < _; decide), ?_⟩⟩⟩
      exact ⟨_, rfl, _, _, rfl, rfl, .inr (by decide), _, rfl, _, _, rfl, rfl, .inl ⟨_, rfl, _, _, rfl, rfl, (by show (0 : Int) < _; decide), .inl ⟨_, rfl, _, rfl, _, _, rfl, rfl, hm, q _ (Int.emod_nonneg _ (by omega)) (Int.emod_lt_of_pos _ hm)⟩⟩⟩
theorem c_take (T : Txt K mg) : C8.Cal P w K mg base 2 "_law_take" spTake [] := by
  have C__law_draw : C8.Cal P w K mg base 1 "_law_draw" spDraw [] := c_draw T
  refine T.d__law_take.cal sc__law_take (fun vs H Q E h => ?_) (fun f cdv A outer s H vs Q E hr h => ?_)
  · obtain ⟨a, n, m, rfl, _⟩ := h
    rfl
  · obtain ⟨a, sp, m, rfl, R, hm, q⟩ := h
    obtain ⟨n, hn, hs⟩ := R.spot
    refine ⟨_, (pss_cons (ps_asg (pe_op op_add (pe_ix ix_list (pv 1) pe_int (fun _ _ => rfl)) pe_int) (pg_sub (pv 1) pe_int set_list))
  (pss_one (ps_ret (C8.pe_c C__law_draw hr (by omega) (by rfl) (pa_cons (pv 0) (pa_cons (pe_op op_sub (pe_ix ix_list (pv 1) pe_int (fun _ _ => rfl)) pe_int) (pa_cons (pv 2) pa_nil))))))), ?_⟩
    have D : Dr sp H (upd H sp (.lst [.int (n + 1)])) := ⟨.at_, n + 1, by omega, upd_same⟩
    refine ⟨_, rfl, sp, _, _, _, rfl, rfl, SqL.of hs, atI_nat (j := 0) rfl, _, _, rfl, rfl, _, rfl, sp, _, _, 0, rfl, rfl, hs, rfl, ?_⟩
    refine ⟨_, rfl, _, rfl, sp, _, _, _, rfl, rfl, SqL.of upd_same, atI_nat (j := 0) rfl, _, _, rfl, rfl, _, rfl, a, _, m, rfl, (R.dr D).row, by omega, hm, fun r h1 h2 => q r _ h1 h2 D⟩
theorem c_wide (T : Txt K mg) : C8.Cal P w K mg base 3 "_law_wide" spTake [] := by
  have C__law_take : C8.Cal P w K mg base 2 "_law_take" spTake [] := c_take T
  refine T.d__law_wide.cal sc__law_wide (fun vs H Q E h => ?_) (fun f cdv A outer s H vs Q E hr h => ?_)
  · obtain ⟨a, n, m, rfl, _⟩ := h
    rfl
  · obtain ⟨a, sp, m, rfl, R, hm, q⟩ := h
    refine ⟨_, (pss_cons (ps_set (i := 3) sc__law_wide.nd rfl (.inl rfl) (C8.pe_c C__law_take hr (by omega) (by rfl) (pa_cons (pv 0) (pa_cons (pv 1) (pa_cons pe_int pa_nil)))))
  (pss_cons (ps_set (i := 4) sc__law_wide.nd rfl (.inl rfl) (C8.pe_c C__law_take hr (by omega) (by rfl) (pa_cons (pv 0) (pa_cons (pv 1) (pa_cons pe_int pa_nil)))))
  (pss_cons (ps_set (i := 5) sc__law_wide.nd rfl (.inl rfl) (C8.pe_c C__law_take hr (by omega) (by rfl) (pa_cons (pv 0) (pa_cons (pv 1) (pa_cons pe_int pa_nil)))))
  (pss_one (ps_ret (pe_op op_mod (pe_callTy call_int1 (by rfl) T.z_int (by decide +kernel) (pa_cons (pe_op op_add (pe_op op_add (pe_op op_mul (pv 3) pe_int) (pe_op op_mul (pv 4) pe_int)) (pv 5)) pa_nil)) (pv 2))))))), ?_⟩
    refine ⟨_, rfl, _, rfl, a, sp, 997, rfl, R, by decide, fun r1 H1 a1 b1 D1 => ?_⟩
    refine ⟨_, rfl, _, rfl, a, sp, 997, rfl, R.dr D1, by decide, fun r2 H2 a2 b2 D2 => ?_⟩
    refine ⟨_, rfl, _, rfl, a, sp, 997, rfl, (R.dr D1).dr D2, by decide, fun r3 H3 a3 b3 D3 => ?_⟩
    exact ⟨_, rfl, _, _, rfl, rfl, .inr (by decide), _, rfl, _, _, rfl, rfl, .inr (by decide), _, _, rfl, rfl, _, rfl, _, _, rfl, rfl, .inl ⟨_, rfl, _, rfl, _, _, rfl, rfl, hm, q _ _ (Int.emod_nonneg _ (by omega)) (Int.emod_lt_of_pos _ hm) ((D1.trans D2).trans D3)⟩⟩
end
end Aq
namespace Aq
open PySem PySem.Spec PyProof.Rows L2
section
variable {P : Program} {w : World} {K : PySem.W.Frag} {mg : Str → Option Value} {base : Heap}
theorem so_len {K : PySem.W.Frag} {n : Nat} : ∀ vs H Q E, spSo K n vs H Q E → vs.length = ["found", "meant"].length := fun vs H Q E h => by
  obtain ⟨v, w, rfl, _⟩ := h
  rfl
theorem c_so0 (T : Txt K mg) : C8.Cal P w K mg base 1 "_law_so" (spSo K 0) [] := by
  refine T.d__law_so.cal sc__law_so so_len (fun f cdv A outer s H vs Q E hr h => ?_)
  obtain ⟨v, w, rfl, ⟨rfl, hs⟩, q⟩ := h
  refine ⟨_, (pss_cons (ps_if (pt_cmpR op_isN (pv 1) pe_non (nomark _))
    (pss_one (ps_ret (pe_cmpR op_isN (pv 0) pe_non (nomark _))))
    pss_nil)
  (pss_cons (ps_if (pt_val (pe_callB call_isi (by rfl) T.z_isinstance (by decide +kernel) (pa_cons (pv 1) (pa_cons (pe_bltn (v := .ty "tuple") (by rfl) T.z_tuple (by decide +kernel) rfl) pa_nil))))
    (pss_cons (ps_if (PW.pt (pw_or (pt_not (pt_val (pe_callB call_isi (by rfl) T.z_isinstance (by decide +kernel) (pa_cons (pv 0) (pa_cons (pe_bltn (v := .ty "tuple") (by rfl) T.z_tuple (by decide +kernel) rfl) pa_nil))))) (pw_or1 (pt_cmpR op_ne (pe_callB call_len_seq (by rfl) T.z_len (by decide +kernel) (pa_cons (pv 0) pa_nil)) (pe_callB call_len_seq (by rfl) T.z_len (by decide +kernel) (pa_cons (pv 1) pa_nil)) (nomark _)))))
    (pss_one (ps_ret pe_bl))
    pss_nil)
  (pss_cons ps_never
  (pss_one (ps_ret pe_bl))))
    pss_nil)
  (pss_cons (ps_if (PW.pt (pw_or (pt_val (pe_callB call_isi (by rfl) T.z_isinstance (by decide +kernel) (pa_cons (pv 1) (pa_cons (pe_bltn (v := .ty "bool") (by rfl) T.z_bool (by decide +kernel) rfl) pa_nil)))) (pw_or1 (pt_val (pe_callB call_isi (by rfl) T.z_isinstance (by decide +kernel) (pa_cons (pv 0) (pa_cons (pe_bltn (v := .ty "bool") (by rfl) T.z_bool (by decide +kernel) rfl) pa_nil)))))))
    (pss_one (ps_ret (pe_and (pe_callB call_isi (by rfl) T.z_isinstance (by decide +kernel) (pa_cons (pv 1) (pa_cons (pe_bltn (v := .ty "bool") (by rfl) T.z_bool (by decide +kernel) rfl) pa_nil))) (pe_and (pe_callB call_isi (by rfl) T.z_isinstance (by decide +kernel) (pa_cons (pv 0) (pa_cons (pe_bltn (v := .ty "bool") (by rfl) T.z_bool (by decide +kernel) rfl) pa_nil))) (pe_one (pe_cmpR op_eq (pv 0) (pv 1) (nomark _)))))))
    pss_nil)
  (pss_cons (ps_if (pt_val (pe_callB call_isi (by rfl) T.z_isinstance (by decide +kernel) (pa_cons (pv 1) (pa_cons (pe_bltn (v := .ty "int") (by rfl) T.z_int (by decide +kernel) rfl) pa_nil))))
    (pss_one (ps_ret (pe_and (pe_callB call_isi (by rfl) T.z_isinstance (by decide +kernel) (pa_cons (pv 0) (pa_cons (pe_bltn (v := .ty "int") (by rfl) T.z_int (by decide +kernel) rfl) pa_nil))) (pe_one (pe_cmpR op_eq (pv 0) (pv 1) (nomark _))))))
    pss_nil)
  (pss_one (ps_ret (pe_and (pe_callB call_isi (by rfl) T.z_isinstance (by decide +kernel) (pa_cons (pv 1) (pa_cons (pe_bltn (v := .ty "str") (by rfl) T.z_str (by decide +kernel) rfl) pa_nil))) (pe_and (pe_callB call_isi (by rfl) T.z_isinstance (by decide +kernel) (pa_cons (pv 0) (pa_cons (pe_bltn (v := .ty "str") (by rfl) T.z_str (by decide +kernel) rfl) pa_nil))) (pe_one (pe_cmpR op_eq (pv 0) (pv 1) (nomark _))))))))))), ?_⟩
  cases v with
  | non => exact ⟨_, rfl, rfl, _, rfl, iteT ⟨_, rfl, rfl, q⟩⟩
  | bl b =>
    refine ⟨_, rfl, rfl, _, rfl, iteF ?_⟩
    refine ⟨_, rfl, _, _, _, _, false, rfl, .ty _, .base (.bl _), kit_ty (by decide +kernel), _, rfl, iteF ?_⟩
    refine ⟨_, rfl, _, _, _, _, true, rfl, .ty _, .base (.bl _), kit_ty (by decide +kernel), _, rfl, iteT ?_⟩
    refine ⟨_, rfl, _, _, _, _, true, rfl, .ty _, .base (.bl _), kit_ty (by decide +kernel), _, rfl, iteT ?_⟩
    refine ⟨_, rfl, _, _, _, _, true, rfl, .ty _, .base (.bl _), kit_ty (by decide +kernel), _, rfl, iteT ?_⟩
    refine ⟨_, rfl, _, rfl, rfl, ?_⟩
    rw [decide_eq_true rfl]
    exact q
  | int i =>
    refine ⟨_, rfl, rfl, _, rfl, iteF ?_⟩
    refine ⟨_, rfl, _, _, _, _, false, rfl, .ty _, .base (.int _), kit_ty (by decide +kernel), _, rfl, iteF ?_⟩
    refine ⟨_, rfl, _, _, _, _, false, rfl, .ty _, .base (.int _), kit_ty (by decide +kernel), _, rfl, iteF ?_⟩
    refine ⟨_, rfl, _, _, _, _, false, rfl, .ty _, .base (.int _), kit_ty (by decide +kernel), _, rfl, iteF ?_⟩
    refine ⟨_, rfl, _, _, _, _, true, rfl, .ty _, .base (.int _), kit_ty (by decide +kernel), _, rfl, iteT ?_⟩
    refine ⟨_, rfl, _, _, _, _, true, rfl, .ty _, .base (.int _), kit_ty (by decide +kernel), _, rfl, iteT ?_⟩
    refine ⟨_, rfl, _, rfl, rfl, ?_⟩
    rw [decide_eq_true rfl]
    exact q
  | str i =>
    refine ⟨_, rfl, rfl, _, rfl, iteF ?_⟩
    refine ⟨_, rfl, _, _, _, _, false, rfl, .ty _, .base (.str _), kit_ty (by decide +kernel), _, rfl, iteF ?_⟩
    refine ⟨_, rfl, _, _, _, _, false, rfl, .ty _, .base (.str _), kit_ty (by decide +kernel), _, rfl, iteF ?_⟩
    refine ⟨_, rfl, _, _, _, _, false, rfl, .ty _, .base (.str _), kit_ty (by decide +kernel), _, rfl, iteF ?_⟩
    refine ⟨_, rfl, _, _, _, _, false, rfl, .ty _, .base (.str _), kit_ty (by decide +kernel), _, rfl, iteF ?_⟩
    refine ⟨_, rfl, _, _, _, _, true, rfl, .ty _, .base (.str _), kit_ty (by decide +kernel), _, rfl, iteT ?_⟩
    refine ⟨_, rfl, _, _, _, _, true, rfl, .ty _, .base (.str _), kit_ty (by decide +kernel), _, rfl, iteT ?_⟩
    refine ⟨_, rfl, _, rfl, rfl, ?_⟩
    rw [decide_eq_true rfl]
    exact q
  | byt b => cases hs
  | flt b => cases hs
  | ref b => cases hs
  | ty b => cases hs
end
end Aq
namespace Aq
open PySem PySem.Spec PyProof.Rows L2
section
variable {P : Program} {w : World} {K : PySem.W.Frag} {mg : Str → Option Value} {base : Heap}
theorem so_down {H : Hp} {n : Nat} {v w : V} (h : So K H (n + 1) v w) (hs : scalB w = true) : So K H 0 v w := by
  rcases h with h | ⟨a, b, xs, ys, rfl, rfl, _⟩
  · exact ⟨h.1, by rw [h.1]; exact hs⟩
  · cases hs
theorem c_so_succ (T : Txt K mg) (n : Nat) (C__law_so : C8.Cal P w K mg base (n + 1) "_law_so" (spSo K n) []) (C0 : C8.Cal P w K mg base 1 "_law_so" (spSo K 0) []) : C8.Cal P w K mg base (n + 2) "_law_so" (spSo K (n + 1)) [] := by
  refine T.d__law_so.cal sc__law_so so_len (fun f cdv A outer s H vs Q E hr h => ?_)
  obtain ⟨v, w, rfl, hso, q⟩ := h
  refine ⟨_, (pss_cons (ps_if (pt_cmpR op_isN (pv 1) pe_non (nomark _))
    (pss_one (ps_ret (pe_cmpR op_isN (pv 0) pe_non (nomark _))))
    pss_nil)
  (pss_cons (ps_if (pt_val (pe_callB call_isi (by rfl) T.z_isinstance (by decide +kernel) (pa_cons (pv 1) (pa_cons (pe_bltn (v := .ty "tuple") (by rfl) T.z_tuple (by decide +kernel) rfl) pa_nil))))
    (pss_cons (ps_if (PW.pt (pw_or (pt_not (pt_val (pe_callB call_isi (by rfl) T.z_isinstance (by decide +kernel) (pa_cons (pv 0) (pa_cons (pe_bltn (v := .ty "tuple") (by rfl) T.z_tuple (by decide +kernel) rfl) pa_nil))))) (pw_or1 (pt_cmpR op_ne (pe_callB call_len_seq (by rfl) T.z_len (by decide +kernel) (pa_cons (pv 0) pa_nil)) (pe_callB call_len_seq (by rfl) T.z_len (by decide +kernel) (pa_cons (pv 1) pa_nil)) (nomark _)))))
    (pss_one (ps_ret pe_bl))
    pss_nil)
  (pss_cons (ps_for PassesOwn.never rfl (pi_range1 (by rfl) T.z_range (pa_cons (pe_callB call_len_seq (by rfl) T.z_len (by decide +kernel) (pa_cons (pv 1) pa_nil)) pa_nil)) (pg_name (i := 2) sc__law_so.nd rfl (.inl rfl))
    (pss_one (ps_if (pt_not (pt_val (C8.pe_c C__law_so hr (by omega) (by rfl) (pa_cons (pe_ix ix_tup (pv 0) (pv 2) (fun _ _ => rfl)) (pa_cons (pe_ix ix_tup (pv 1) (pv 2) (fun _ _ => rfl)) pa_nil)))))
    (pss_one (ps_ret pe_bl))
    pss_nil)))
  (pss_one (ps_ret pe_bl))))
    pss_nil)
  (pss_cons (ps_if (PW.pt (pw_or (pt_val (pe_callB call_isi (by rfl) T.z_isinstance (by decide +kernel) (pa_cons (pv 1) (pa_cons (pe_bltn (v := .ty "bool") (by rfl) T.z_bool (by decide +kernel) rfl) pa_nil)))) (pw_or1 (pt_val (pe_callB call_isi (by rfl) T.z_isinstance (by decide +kernel) (pa_cons (pv 0) (pa_cons (pe_bltn (v := .ty "bool") (by rfl) T.z_bool (by decide +kernel) rfl) pa_nil)))))))
    (pss_one (ps_ret (pe_and (pe_callB call_isi (by rfl) T.z_isinstance (by decide +kernel) (pa_cons (pv 1) (pa_cons (pe_bltn (v := .ty "bool") (by rfl) T.z_bool (by decide +kernel) rfl) pa_nil))) (pe_and (pe_callB call_isi (by rfl) T.z_isinstance (by decide +kernel) (pa_cons (pv 0) (pa_cons (pe_bltn (v := .ty "bool") (by rfl) T.z_bool (by decide +kernel) rfl) pa_nil))) (pe_one (pe_cmpR op_eq (pv 0) (pv 1) (nomark _)))))))
    pss_nil)
  (pss_cons (ps_if (pt_val (pe_callB call_isi (by rfl) T.z_isinstance (by decide +kernel) (pa_cons (pv 1) (pa_cons (pe_bltn (v := .ty "int") (by rfl) T.z_int (by decide +kernel) rfl) pa_nil))))
    (pss_one (ps_ret (pe_and (pe_callB call_isi (by rfl) T.z_isinstance (by decide +kernel) (pa_cons (pv 0) (pa_cons (pe_bltn (v := .ty "int") (by rfl) T.z_int (by decide +kernel) rfl) pa_nil))) (pe_one (pe_cmpR op_eq (pv 0) (pv 1) (nomark _))))))
    pss_nil)
  (pss_one (ps_ret (pe_and (pe_callB call_isi (by rfl) T.z_isinstance (by decide +kernel) (pa_cons (pv 1) (pa_cons (pe_bltn (v := .ty "str") (by rfl) T.z_str (by decide +kernel) rfl) pa_nil))) (pe_and (pe_callB call_isi (by rfl) T.z_isinstance (by decide +kernel) (pa_cons (pv 0) (pa_cons (pe_bltn (v := .ty "str") (by rfl) T.z_str (by decide +kernel) rfl) pa_nil))) (pe_one (pe_cmpR op_eq (pv 0) (pv 1) (nomark _))))))))))), ?_⟩
  rcases hso with ⟨rfl, hs⟩ | ⟨a, b, xs, ys, rfl, rfl, ta, tb, pr, hz⟩
  · cases v with
    | non => exact ⟨_, rfl, rfl, _, rfl, iteT ⟨_, rfl, rfl, q⟩⟩
    | bl b =>
      refine ⟨_, rfl, rfl, _, rfl, iteF ?_⟩
      refine ⟨_, rfl, _, _, _, _, false, rfl, .ty _, .base (.bl _), kit_ty (by decide +kernel), _, rfl, iteF ?_⟩
      refine ⟨_, rfl, _, _, _, _, true, rfl, .ty _, .base (.bl _), kit_ty (by decide +kernel), _, rfl, iteT ?_⟩
      refine ⟨_, rfl, _, _, _, _, true, rfl, .ty _, .base (.bl _), kit_ty (by decide +kernel), _, rfl, iteT ?_⟩
      refine ⟨_, rfl, _, _, _, _, true, rfl, .ty _, .base (.bl _), kit_ty (by decide +kernel), _, rfl, iteT ?_⟩
      refine ⟨_, rfl, _, rfl, rfl, ?_⟩
      rw [decide_eq_true rfl]
      exact q
    | int i =>
      refine ⟨_, rfl, rfl, _, rfl, iteF ?_⟩
      refine ⟨_, rfl, _, _, _, _, false, rfl, .ty _, .base (.int _), kit_ty (by decide +kernel), _, rfl, iteF ?_⟩
      refine ⟨_, rfl, _, _, _, _, false, rfl, .ty _, .base (.int _), kit_ty (by decide +kernel), _, rfl, iteF ?_⟩
      refine ⟨_, rfl, _, _, _, _, false, rfl, .ty _, .base (.int _), kit_ty (by decide +kernel), _, rfl, iteF ?_⟩
      refine ⟨_, rfl, _, _, _, _, true, rfl, .ty _, .base (.int _), kit_ty (by decide +kernel), _, rfl, iteT ?_⟩
      refine ⟨_, rfl, _, _, _, _, true, rfl, .ty _, .base (.int _), kit_ty (by decide +kernel), _, rfl, iteT ?_⟩
      refine ⟨_, rfl, _, rfl, rfl, ?_⟩
      rw [decide_eq_true rfl]
      exact q
    | str i =>
      refine ⟨_, rfl, rfl, _, rfl, iteF ?_⟩
      refine ⟨_, rfl, _, _, _, _, false, rfl, .ty _, .base (.str _), kit_ty (by decide +kernel), _, rfl, iteF ?_⟩
      refine ⟨_, rfl, _, _, _, _, false, rfl, .ty _, .base (.str _), kit_ty (by decide +kernel), _, rfl, iteF ?_⟩
      refine ⟨_, rfl, _, _, _, _, false, rfl, .ty _, .base (.str _), kit_ty (by decide +kernel), _, rfl, iteF ?_⟩
      refine ⟨_, rfl, _, _, _, _, false, rfl, .ty _, .base (.str _), kit_ty (by decide +kernel), _, rfl, iteF ?_⟩
      refine ⟨_, rfl, _, _, _, _, true, rfl, .ty _, .base (.str _), kit_ty (by decide +kernel), _, rfl, iteT ?_⟩
      refine ⟨_, rfl, _, _, _, _, true, rfl, .ty _, .base (.str _), kit_ty (by decide +kernel), _, rfl, iteT ?_⟩
      refine ⟨_, rfl, _, rfl, rfl, ?_⟩
      rw [decide_eq_true rfl]
      exact q
    | byt b => cases hs
    | flt b => cases hs
    | ref b => cases hs
    | ty b => cases hs
  · refine ⟨_, rfl, rfl, _, rfl, iteF ?_⟩
    refine ⟨_, rfl, _, _, _, _, true, rfl, .ty _, ty_tup tb, kit_ty (by decide +kernel), _, rfl, iteT ?_⟩
    refine ⟨_, rfl, _, _, _, _, true, rfl, .ty _, ty_tup ta, kit_ty (by decide +kernel), _, rfl, iteF ?_⟩
    refine ⟨_, rfl, a, _, rfl, .inr ta, _, rfl, b, _, rfl, .inr tb, rfl, _, rfl, ?_⟩
    have el : xs.length = ys.length := pr.length
    rw [el, decide_eq_true rfl]
    refine iteF ?_
    refine ⟨_, rfl, b, _, rfl, .inr tb, _, rfl, by omega, ?_, for_range (lo := 0) (n := ys.length) (fun i σ H' => ∃ y, σ = [some (.ref a), some (.ref b), y] ∧ H' = H) ⟨_, rfl, rfl⟩ (fun i σ H' hi ⟨y, e1, e2⟩ => ?_) (fun σ H' ⟨y, e1, e2⟩ => ?_)⟩
    · have : (ys.length : Int) ≤ 1000 := by omega
      omega
    · subst e1
      subst e2
      obtain ⟨w, hw⟩ : ∃ w, ys[i]? = some w := ⟨_, List.getElem?_eq_getElem hi⟩
      obtain ⟨v, hv, hvw⟩ := Pd.at2 pr hw
      refine ⟨_, rfl, _, rfl, a, _, _, _, rfl, rfl, ta, at_of (by omega) hv, _, rfl, _, rfl, b, _, _, _, rfl, rfl, tb, at_of (by omega) hw, v, w, rfl, hvw, _, rfl, iteF ?_⟩
      exact ⟨_, rfl, rfl⟩
    · subst e1
      subst e2
      exact q
end
end Aq
namespace Aq
open PySem PySem.Spec PyProof.Rows L2
theorem cut_mem {xs : List V} {lo hi : Option Int} {i : Nat} {x : V} (h : (cutV xs lo hi)[i]? = some x) : x ∈ xs := by
  have h1 : x ∈ cutV xs lo hi := List.mem_of_getElem? h
  unfold cutV at h1
  exact List.mem_of_mem_drop (List.mem_of_mem_take h1)
section
variable {P : Program} {w : World} {K : PySem.W.Frag} {mg : Str → Option Value} {base : Heap}
theorem c_numbers (T : Txt K mg) : C8.Cal P w K mg base 1 "_law_numbers" (spNumbers K) [] := by
  refine T.d__law_numbers.cal sc__law_numbers (fun vs H Q E h => ?_) (fun f cdv A outer s H vs Q E hr h => ?_)
  · obtain ⟨a, ns, rfl, _⟩ := h
    rfl
  obtain ⟨a, ns, rfl, hS, hl, q⟩ := h
  refine ⟨_, (pss_cons (ps_set (i := 1) sc__law_numbers.nd rfl (.inl rfl) (pe_lst pa_nil))
  (pss_cons (ps_for PassesOwn.never rfl (pi_list (pe_slice sl_list (pv 0) po_none (po_some pe_int))) (pg_name (i := 2) sc__law_numbers.nd rfl (.inl rfl))
    (pss_one (ps_if (pt_cmpR op_ge (pv 2) (pe_op op_pow pe_int pe_int) (nomark _))
    (pss_cons (ps_set (i := 3) sc__law_numbers.nd rfl (.inl rfl) (pv 2))
  (pss_one (ps_for PassesOwn.never rfl (pi_range1 (by rfl) T.z_range (pa_cons pe_int pa_nil)) (pg_name (i := 4) sc__law_numbers.nd rfl (.inl rfl))
    (pss_cons (ps_if (pt_cmpR op_eq (pv 3) pe_int (nomark _))
    (pss_one ps_break)
    pss_nil)
  (pss_cons (ps_expr (pe_bm PySem.F.plainAttrs_list PySem.F.slot_list_append PySem.F.type_list_append mt_append (pv 1) (pa_cons (pe_op op_mod (pe_callTy call_int1 (by rfl) T.z_int (by decide +kernel) (pa_cons (pv 3) pa_nil)) pe_int) pa_nil)))
  (pss_one (ps_set (i := 3) sc__law_numbers.nd rfl (.inl rfl) (pe_op op_fdiv (pv 3) pe_int))))))))
    (pss_one (ps_for PassesOwn.never rfl (pi_range1 (by rfl) T.z_range (pa_cons pe_int pa_nil)) (pg_name (i := 4) sc__law_numbers.nd rfl (.inl rfl))
    (pss_cons (ps_set (i := 5) sc__law_numbers.nd rfl (.inl rfl) (pe_op op_mod (pe_callTy call_int1 (by rfl) T.z_int (by decide +kernel) (pa_cons (pe_op op_add (pe_op op_add (pe_op op_mul (pv 2) pe_int) (pe_op op_mul (pv 4) pe_int)) pe_int) pa_nil)) pe_int))
  (pss_one (ps_expr (pe_bm PySem.F.plainAttrs_list PySem.F.slot_list_append PySem.F.type_list_append mt_append (pv 1) (pa_cons (pe_op op_mod (pe_callTy call_int1 (by rfl) T.z_int (by decide +kernel) (pa_cons (pe_op op_add (pe_op op_mul (pv 5) pe_int) (pv 4)) pa_nil)) pe_int) pa_nil))))))))))
  (pss_cons (ps_if (pt_cmpR op_eq (pe_callB call_len_seq (by rfl) T.z_len (by decide +kernel) (pa_cons (pv 1) pa_nil)) pe_int (nomark _))
    (pss_one (ps_expr (pe_bm PySem.F.plainAttrs_list PySem.F.slot_list_append PySem.F.type_list_append mt_append (pv 1) (pa_cons pe_int pa_nil))))
    pss_nil)
  (pss_one (ps_ret (pv 1)))))), ?_⟩
  -- row = []
  refine ⟨Nat.zero_le _, fun o no => ?_⟩
  have s1 : Same H (upd H o (.lst [])) := grow no
  -- script[:63]
  refine ⟨.ref a, rfl, 63, rfl, a, ns.map V.int, rfl, s1.seq hS, fun c nc => ?_⟩
  have s2 : Same (upd H o (.lst [])) (upd (upd H o (.lst [])) c (.lst (cutV (ns.map V.int) none (some 63)))) := grow nc
  have nco : c ≠ o := fun e => by
    rw [e, upd_same] at nc
    cases nc
  have hcl : (cutV (ns.map V.int) none (some 63)).length ≤ 63 := by
    have := cutV_length (ns.map V.int) none (some 63)
    rw [List.length_map] at this
    omega
  refine ⟨c, rfl, ⟨_, SqL.of upd_same⟩, for_list (K := K) (a := c) (xs := cutV (ns.map V.int) none (some 63))
    (fun i σ H' => ∃ y2 y3 y4 y5, ∃ ms : List Int, σ = [some (.ref a), some (.ref o), y2, y3, y4, y5] ∧ Same H H' ∧ H' c = some (.lst (cutV (ns.map V.int) none (some 63))) ∧ H' o = some (.lst (ms.map V.int)) ∧ ms.length ≤ 60 * i)
    ⟨none, none, none, none, [], rfl, s1.trans s2, upd_same, by rw [upd_ne nco.symm, upd_same]; rfl, by simp⟩ (fun i σ H' _ ⟨_, _, _, _, _, _, _, e, _⟩ => SqL.of e) ?_ ?_⟩
  · rintro i x σ H' hx ⟨y2, y3, y4, y5, ms, rfl, sm, ec, eo, hm⟩
    have hi : i < 63 := by
      have := (List.getElem?_eq_some_iff.mp hx).1
      omega
    obtain ⟨z, hz, rfl⟩ := List.mem_map.mp (cut_mem hx)
    have hcy : ∀ (us : List Int), Same H (upd H' o (.lst (us.map V.int))) := fun us b u e => by
      rw [upd_ne (ne_of_none e no)]
      exact sm b u e
    have hcc : ∀ (us : List Int), (upd H' o (.lst (us.map V.int))) c = some (.lst (cutV (ns.map V.int) none (some 63))) := fun us => by
      rw [upd_ne nco]
      exact ec
    -- if cell >= 10 ** 18
    refine ⟨_, rfl, _, _, rfl, rfl, ⟨by decide, by decide, by decide⟩, _, _, rfl, rfl, _, rfl, ite2 (fun _ => ?_) (fun _ => ?_)⟩
    · -- left = cell; the loop
      refine ⟨_, rfl, _, rfl, by decide, by decide, for_range (lo := 0) (n := 60) (fun j σ H'' => ∃ (l : Int) (y4 y5 : Option V) (us : List Int), σ = [some (.ref a), some (.ref o), some (.int z), some (.int l), y4, y5] ∧ Same H H'' ∧ H'' c = some (.lst (cutV (ns.map V.int) none (some 63))) ∧ H'' o = some (.lst (us.map V.int)) ∧ us.length ≤ 60 * i + j)
        ⟨z, y4, y5, ms, rfl, sm, ec, eo, by omega⟩ ?_ ?_⟩
      · rintro j σ H'' hj ⟨l, y4, y5, us, rfl, sm, ec, eo, hu⟩
        -- if left == 0: break
        refine ⟨_, rfl, rfl, _, rfl, ite2 (fun _ => ?_) (fun _ => ?_)⟩
        · exact ⟨_, _, _, _, us, rfl, sm, ec, eo, by omega⟩
        · -- row.append(int(left) % 997); left = left // 997
          refine ⟨_, rfl, .inl ⟨rfl, _, SqL.of eo⟩, _, rfl, .inl ⟨_, rfl, _, _, rfl, rfl, (by show (0 : Int) < _; decide), ?_⟩⟩
          refine ⟨o, _, _, rfl, rfl, eo, by rw [List.length_map]; exact small1000' (by omega), ?_⟩
          refine ⟨_, rfl, _, _, rfl, rfl, ⟨by decide, by decide⟩, ?_⟩
          refine ⟨_, _, _, us ++ [l % 997], rfl, fun b u e => ?_, ?_, ?_, ?_⟩
          · rw [upd_ne (ne_of_none e no)]
            exact sm b u e
          · rw [upd_ne nco]
            exact ec
          · rw [upd_same, List.map_append]
            rfl
          · rw [List.length_append]
            show us.length + 1 ≤ _
            omega
      · rintro σ H'' ⟨l, y4, y5, us, rfl, sm, ec, eo, hu⟩
        exact ⟨_, _, _, _, us, rfl, sm, ec, eo, by omega⟩
    · refine ⟨_, rfl, by decide, by decide, for_range (lo := 0) (n := 4) (fun j σ H'' => ∃ (y3 y4 y5 : Option V) (us : List Int), σ = [some (.ref a), some (.ref o), some (.int z), y3, y4, y5] ∧ Same H H'' ∧ H'' c = some (.lst (cutV (ns.map V.int) none (some 63))) ∧ H'' o = some (.lst (us.map V.int)) ∧ us.length ≤ 60 * i + j)
        ⟨y3, y4, y5, ms, rfl, sm, ec, eo, by omega⟩ ?_ ?_⟩
      · rintro j σ H'' hj ⟨y3, y4, y5, us, rfl, sm, ec, eo, hu⟩
        refine ⟨_, rfl, _, _, rfl, rfl, .inr (by decide), _, rfl, _, _, rfl, rfl, .inr (by decide), _, _, rfl, rfl, _, _, rfl, rfl, .inl ⟨_, rfl, _, _, rfl, rfl, (by show (0 : Int) < _; decide), ?_⟩⟩
        refine ⟨_, rfl, .inl ⟨rfl, _, SqL.of eo⟩, _, rfl, _, _, rfl, rfl, .inr (by decide), _, rfl, _, _, rfl, rfl, .inl ⟨_, rfl, _, _, rfl, rfl, (by show (0 : Int) < _; decide), ?_⟩⟩
        refine ⟨o, _, _, rfl, rfl, eo, by rw [List.length_map]; exact small1000' (by omega), ?_⟩
        refine ⟨_, _, _, us ++ [((z * 48271 + (0 + (j : Int)) * 69621 + 11) % 2147483647 * 16807 + (0 + (j : Int))) % 2147483629], rfl, fun b u e => ?_, ?_, ?_, ?_⟩
        · rw [upd_ne (ne_of_none e no)]
          exact sm b u e
        · rw [upd_ne nco]
          exact ec
        · rw [upd_same, List.map_append]
          rfl
        · rw [List.length_append]
          show us.length + 1 ≤ _
          omega
      · rintro σ H'' ⟨y3, y4, y5, us, rfl, sm, ec, eo, hu⟩
        exact ⟨_, _, _, _, us, rfl, sm, ec, eo, by omega⟩
  · rintro σ H' ⟨y2, y3, y4, y5, ms, rfl, sm, ec, eo, hm⟩
    -- if len(row) == 0
    refine ⟨_, rfl, o, _, rfl, .inl (SqL.of eo), rfl, _, rfl, ite2 (fun e => ?_) (fun e => ?_)⟩
    · refine ⟨_, rfl, .inl ⟨rfl, _, SqL.of eo⟩, o, _, _, rfl, rfl, eo, by rw [List.length_map]; exact small1000' (by omega), ?_⟩
      have e0 : ms.length = 0 := by
        have := V.int.inj (of_decide_eq_true e)
        rw [List.length_map] at this
        omega
      refine ⟨_, rfl, q o _ (fun b u e => ?_) no ⟨ms ++ [0], ?_, ?_, ?_⟩⟩
      · rw [upd_ne (ne_of_none e no)]
        exact sm b u e
      · rw [upd_same, List.map_append]
        rfl
      · rw [List.length_append]
        show 0 < ms.length + 1
        omega
      · rw [List.length_append]
        show ms.length + 1 ≤ _
        omega
    · have e0 : ms.length ≠ 0 := fun z => e (by
        rw [List.length_map, z]
        exact decide_eq_true rfl)
      exact ⟨_, rfl, q o _ sm no ⟨ms, eo, by omega, by omega⟩⟩
end
end Aq
namespace Aq
open PySem PySem.Spec PyProof.Rows L2
section
variable {P : Program} {w : World} {K : PySem.W.Frag} {mg : Str → Option Value} {base : Heap}
theorem lo_len {α : Type} {R S : Hp → V → α → Prop} {L : Hp → Hp → V → Prop} : ∀ vs H Q E, spLo R S L vs H Q E → vs.length = ["value", "turn"].length := fun vs H Q E h => by
  obtain ⟨v, w, t, rfl, _⟩ := h
  rfl
theorem c_loose0 (T : Txt K mg) : C8.Cal P w K mg base 1 "_law_loose" (spLo I0 I0 fun _ _ _ => True) [] := by
  refine T.d__law_loose.cal sc__law_loose lo_len (fun f cdv A outer s H vs Q E hr h => ?_)
  obtain ⟨v, x, t, rfl, hR, q⟩ := h
  obtain rfl : v = .int x := hR
  refine ⟨_, (pss_cons (ps_if (pt_val (pe_callB call_isi (by rfl) T.z_isinstance (by decide +kernel) (pa_cons (pv 0) (pa_cons (pe_bltn (v := .ty "tuple") (by rfl) T.z_tuple (by decide +kernel) rfl) pa_nil))))
    (pss_cons ps_never
  (pss_one (ps_ret (pe_ifExp (pt_cmpR op_eq (pe_op op_mod (pe_callTy call_int1 (by rfl) T.z_int (by decide +kernel) (pa_cons (pv 1) pa_nil)) pe_int) pe_int (nomark _)) (pv 2) (pe_callTy call_tuple_of (by rfl) T.z_tuple (by decide +kernel) (pa_cons (pv 2) pa_nil))))))
    pss_nil)
  (pss_one (ps_ret (pv 0)))), ?_⟩
  refine ⟨_, rfl, _, _, _, _, false, rfl, .ty _, .base (.int _), kit_ty (by decide +kernel), _, rfl, iteF ?_⟩
  exact ⟨_, rfl, q _ _ (Same.refl _) rfl fun _ => trivial⟩
theorem c_loose_succ {α : Type} {R S : Hp → V → α → Prop} {L : Hp → Hp → V → Prop} (T : Txt K mg) (n : Nat) (mR : Mono R) (mS : Mono S) (C__law_loose : C8.Cal P w K mg base n "_law_loose" (spLo R S L) []) : C8.Cal P w K mg base (n + 1) "_law_loose" (spLo (TL K R) (SL K S) Lnew) [] := by
  refine T.d__law_loose.cal sc__law_loose lo_len (fun f cdv A outer s H vs Q E hr h => ?_)
  obtain ⟨v, l, t, rfl, ⟨a, xs, rfl, ta, pr, hz⟩, q⟩ := h
  refine ⟨_, (pss_cons (ps_if (pt_val (pe_callB call_isi (by rfl) T.z_isinstance (by decide +kernel) (pa_cons (pv 0) (pa_cons (pe_bltn (v := .ty "tuple") (by rfl) T.z_tuple (by decide +kernel) rfl) pa_nil))))
    (pss_cons (ps_setLc (i := 2) (own := [("one", 3)]) (g := gName 3) (by rfl) sc__law_loose.nd rfl rfl (sw_true rfl rfl rfl (by decide +kernel)) (pi_tup (pv 0)) (blkOk_by (own := [("one", 3)]) (N := ["value", "turn", "made", "one"]) (sc := defScope s__law_loose) (by decide +kernel)) (fun _ _ _ _ _ => pg_name (i := 3) sc__law_loose.nd rfl (Or.inl rfl)) (fun _ _ _ _ _ => pts_nil) (fun _ _ _ _ _ => (C8.pe_c C__law_loose hr (by omega) (by rfl) (pa_cons (pv 3) (pa_cons (pe_op op_add (pv 1) pe_int) pa_nil)))))
  (pss_one (ps_ret (pe_ifExp (pt_cmpR op_eq (pe_op op_mod (pe_callTy call_int1 (by rfl) T.z_int (by decide +kernel) (pa_cons (pv 1) pa_nil)) pe_int) pe_int (nomark _)) (pv 2) (pe_callTy call_tuple_of (by rfl) T.z_tuple (by decide +kernel) (pa_cons (pv 2) pa_nil))))))
    pss_nil)
  (pss_one (ps_ret (pv 0)))), ?_⟩
  refine ⟨_, rfl, _, _, _, _, true, rfl, .ty _, ty_tup ta, kit_ty (by decide +kernel), _, rfl, iteT ?_⟩
  refine ⟨_, rfl, a, rfl, ⟨_, ta⟩, fun D hD => lc_tup (K := K) (a := a) (xs := xs) (fun i H' => Same H H' ∧ ∃ acc, H' D = some (.lst acc) ∧ Paired (S (Wo D H H')) acc (l.take i)) ⟨grow hD, [], upd_same, .nil⟩ (fun i H' _ h => Same.sqT h.1 ta) ?_ ?_⟩
  · rintro i x H' hx ⟨sm, acc, eD, pa⟩
    obtain ⟨y, hy, hxy⟩ := Pd.at_ pr hx
    refine ⟨rfl, ?_⟩
    refine ⟨_, rfl, _, rfl, _, _, rfl, rfl, x, y, t + 1, rfl, mR _ _ _ _ sm hxy, fun w H'' sm' hw _ => ⟨acc, sm' _ _ eD, ?_, fun b u e => ?_, acc ++ [w], upd_same, ?_⟩⟩
    · have h1 := pa.length
      rw [List.length_take] at h1
      exact small1000' (by omega)
    · rw [upd_ne (ne_of_none e hD)]
      exact sm' _ _ (sm b u e)
    · have e1 : l.take (i + 1) = l.take i ++ [y] := by
        rw [List.take_add_one, hy]
        rfl
      rw [e1]
      exact Pd.snoc (L2.Paired.mapP pa fun _ _ h => mS _ _ _ _ (Wo.grow sm') h) (mS _ _ _ _ (New.wo sm eD) hw)
  · rintro H' ⟨sm, acc, eD, pa⟩
    have el : l.take xs.length = l := List.take_of_length_le (by rw [pr.length]; exact Nat.le_refl _)
    rw [el] at pa
    refine ⟨_, rfl, .inl ⟨_, rfl, _, _, rfl, rfl, (by show (0 : Int) < _; decide), rfl, _, rfl, ite2 (fun e => ?_) (fun e => ?_)⟩⟩
    · exact ⟨_, rfl, q _ _ sm ⟨D, acc, rfl, .inl (SqL.of (by rw [New.at_ hD]; exact eD)), L2.Paired.mapP pa fun _ _ h => mS _ _ _ _ Wo.le h, hz⟩ fun _ => ⟨D, acc, rfl, hD, eD⟩⟩
    · have ne : ¬ t % 2 = 0 := fun z => e (decide_eq_true (congrArg V.int z))
      refine ⟨_, rfl, D, acc, rfl, .inl ⟨SqL.of eD, fun p np => q _ _ (sm.trans (grow np)) ?_ fun z => absurd z ne⟩⟩
      have hp : H p = none := sm.free np
      refine ⟨p, acc, rfl, .inr (SqT.of (by rw [New.at_ hp, upd_same])), L2.Paired.mapP pa fun _ _ h => mS _ _ _ _ (fun b u e => ?_) h, hz⟩
      have e2 := Wo.le _ _ e
      unfold New at e2 ⊢
      split at e2
      · cases e2
      · rename_i n
        rw [if_neg n, upd_ne (ne_of_none e2 np)]
        exact e2
theorem c_loose2 (T : Txt K mg) : C8.Cal P w K mg base 3 "_law_loose" (spLo (TL K (TL K I0)) (SL K (SL K I0)) Lnew) [] :=
  c_loose_succ T 2 (TL.mono I0.mono) (SL.mono I0.mono) (c_loose_succ T 1 I0.mono I0.mono (c_loose0 T))
theorem c_loose3 (T : Txt K mg) : C8.Cal P w K mg base 4 "_law_loose" (spLo (TL K (TL K (TL K I0))) (SL K (SL K (SL K I0))) Lnew) [] :=
  c_loose_succ T 3 (TL.mono (TL.mono I0.mono)) (SL.mono (SL.mono I0.mono)) (c_loose2 T)
theorem c_loose1 (T : Txt K mg) : C8.Cal P w K mg base 2 "_law_loose" (spLo (TL K I0) (SL K I0) Lnew) [] := c_loose_succ T 1 I0.mono I0.mono (c_loose0 T)
end
end Aq
namespace Aq
open PySem PySem.Spec PyProof.Rows L2
theorem kit_ff {K : PySem.W.Frag} {t a b : String} (h1 : kitB t a = some false) (h2 : kitB t b = some false) : PySem.W.kitAny K (.type t) [.type a, .type b] = some false :=
  kitAny_cons (b := false) (kit_ty h1) (fun _ => kitAny_cons (b := false) (kit_ty h2) (fun _ => kitAny_nil) (by intro z; cases z)) (by intro z; cases z)
section
variable {P : Program} {w : World} {K : PySem.W.Frag} {mg : Str → Option Value} {base : Heap}
theorem c_is_integer (T : Txt K mg) : C8.Cal P w K mg base 1 "is_integer" (spIsI K) [] := by
  refine T.d_is_integer.cal sc_is_integer (fun vs H Q E h => ?_) (fun f cdv A outer s H vs Q E hr h => ?_)
  · obtain ⟨v, o, rfl, _⟩ := h
    rfl
  obtain ⟨v, o, rfl, hv, q⟩ := h
  refine ⟨_, (pss_one (ps_ret (pe_and (pe_callB call_isi (by rfl) T.z_isinstance (by decide +kernel) (pa_cons (pv 0) (pa_cons (pe_bltn (v := .ty "int") (by rfl) T.z_int (by decide +kernel) rfl) pa_nil))) (pe_one (pe_not (pe_callB call_isi (by rfl) T.z_isinstance (by decide +kernel) (pa_cons (pv 0) (pa_cons (pe_bltn (v := .ty "bool") (by rfl) T.z_bool (by decide +kernel) rfl) pa_nil)))))))), ?_⟩
  cases hv with
  | non => exact ⟨_, rfl, _, _, _, _, false, rfl, .ty _, .base .non, kit_ty (by decide +kernel), _, rfl, iteF q⟩
  | bl b => exact ⟨_, rfl, _, _, _, _, true, rfl, .ty _, .base (.bl _), kit_ty (by decide +kernel), _, rfl, iteT ⟨_, rfl, _, _, _, _, true, rfl, .ty _, .base (.bl _), kit_ty (by decide +kernel), _, rfl, q⟩⟩
  | int i => exact ⟨_, rfl, _, _, _, _, true, rfl, .ty _, .base (.int _), kit_ty (by decide +kernel), _, rfl, iteT ⟨_, rfl, _, _, _, _, false, rfl, .ty _, .base (.int _), kit_ty (by decide +kernel), _, rfl, q⟩⟩
  | str i => exact ⟨_, rfl, _, _, _, _, false, rfl, .ty _, .base (.str _), kit_ty (by decide +kernel), _, rfl, iteF q⟩
  | lst h => exact ⟨_, rfl, _, _, _, _, false, rfl, .ty _, ty_lst h, kit_ty (by decide +kernel), _, rfl, iteF q⟩
  | tup h => exact ⟨_, rfl, _, _, _, _, false, rfl, .ty _, ty_tup h, kit_ty (by decide +kernel), _, rfl, iteF q⟩
theorem c_is_within (T : Txt K mg) : C8.Cal P w K mg base 2 "is_within" (spIsW K) [] := by
  have C_is_integer : C8.Cal P w K mg base 1 "is_integer" (spIsI K) [] := c_is_integer T
  refine T.d_is_within.cal sc_is_within (fun vs H Q E h => ?_) (fun f cdv A outer s H vs Q E hr h => ?_)
  · obtain ⟨v, o, lo, hi, rfl, _⟩ := h
    rfl
  obtain ⟨v, o, lo, hi, rfl, hv, q⟩ := h
  refine ⟨_, (pss_one (ps_ret (pe_and (C8.pe_c C_is_integer hr (by omega) (by rfl) (pa_cons (pv 0) pa_nil)) (pe_one (pe_chain op_le op_le (pv 1) (pv 0) (pv 2)))))), ?_⟩
  refine ⟨_, rfl, v, o, rfl, hv, _, rfl, ?_⟩
  by_cases hI : ∃ i, v = .int i
  · obtain ⟨i, rfl⟩ := hI
    refine iteT ⟨_, rfl, _, rfl, _, _, rfl, rfl, _, rfl, ite2 (fun e => ?_) (fun e => ?_)⟩
    · refine ⟨_, rfl, _, _, rfl, rfl, ?_⟩
      have z : inW (.int i) lo hi = decide (i ≤ hi) := by
        show (decide (lo ≤ i) && decide (i ≤ hi)) = _
        rw [e, Bool.true_and]
      rw [z] at q
      exact q
    · have z : inW (.int i) lo hi = false := by
        show (decide (lo ≤ i) && decide (i ≤ hi)) = _
        rw [Bool.eq_false_iff.mpr e, Bool.false_and]
      rw [z] at q
      exact q
  · have e1 : isI v = false := by
      cases v <;> first | rfl | exact absurd ⟨_, rfl⟩ hI
    have e2 : inW v lo hi = false := by
      cases v <;> first | rfl | exact absurd ⟨_, rfl⟩ hI
    rw [e1]
    rw [e2] at q
    exact iteF q
theorem c_is_sequence (T : Txt K mg) : C8.Cal P w K mg base 1 "is_sequence" (spIsS K) [] := by
  refine T.d_is_sequence.cal sc_is_sequence (fun vs H Q E h => ?_) (fun f cdv A outer s H vs Q E hr h => ?_)
  · obtain ⟨v, o, rfl, _⟩ := h
    rfl
  obtain ⟨v, o, rfl, hv, q⟩ := h
  refine ⟨_, (pss_one (ps_ret (pe_callB call_isiT (by rfl) T.z_isinstance (by decide +kernel) (pa_cons (pv 0) (pa_cons (pe_tup (pa_cons (pe_bltn (v := .ty "list") (by rfl) T.z_list (by decide +kernel) rfl) (pa_cons (pe_bltn (v := .ty "tuple") (by rfl) T.z_tuple (by decide +kernel) rfl) pa_nil))) pa_nil))))), ?_⟩
  refine ⟨_, rfl, by show 2 ≤ sizeLine; decide, fun p np => ?_⟩
  have g : Same H (upd H p (.tup [.ty "list", .ty "tuple"])) := grow np
  have hv' := hv.same g
  have pc : Paired ClsV [V.ty "list", V.ty "tuple"] [Value.type "list", Value.type "tuple"] := .cons (.ty _) (.cons (.ty _) .nil)
  cases hv' with
  | non => exact ⟨_, _, _, _, _, false, rfl, upd_same, pc, .base .non, kit_ff (by decide +kernel) (by decide +kernel), q _ g⟩
  | bl b => exact ⟨_, _, _, _, _, false, rfl, upd_same, pc, .base (.bl _), kit_ff (by decide +kernel) (by decide +kernel), q _ g⟩
  | int b => exact ⟨_, _, _, _, _, false, rfl, upd_same, pc, .base (.int _), kit_ff (by decide +kernel) (by decide +kernel), q _ g⟩
  | str b => exact ⟨_, _, _, _, _, false, rfl, upd_same, pc, .base (.str _), kit_ff (by decide +kernel) (by decide +kernel), q _ g⟩
  | lst h => exact ⟨_, _, _, _, _, true, rfl, upd_same, pc, ty_lst h, kitAny_cons (b := true) (kit_ty (by decide +kernel)) (by intro z; cases z) (fun _ => rfl), q _ g⟩
  | tup h => exact ⟨_, _, _, _, _, true, rfl, upd_same, pc, ty_tup h, kitAny_cons (b := false) (kit_ty (by decide +kernel)) (fun _ => kitAny_cons (b := true) (kit_ty (by decide +kernel)) (by intro z; cases z) (fun _ => rfl)) (by intro z; cases z), q _ g⟩
theorem c_has_length (T : Txt K mg) : C8.Cal P w K mg base 2 "has_length" (spLen K) [] := by
  have C_is_sequence : C8.Cal P w K mg base 1 "is_sequence" (spIsS K) [] := c_is_sequence T
  refine T.d_has_length.cal sc_has_length (fun vs H Q E h => ?_) (fun f cdv A outer s H vs Q E hr h => ?_)
  · obtain ⟨v, o, lo, hi, rfl, _⟩ := h
    rfl
  obtain ⟨v, o, lo, hi, rfl, hv, q⟩ := h
  refine ⟨_, (pss_one (ps_ret (pe_and (C8.pe_c C_is_sequence hr (by omega) (by rfl) (pa_cons (pv 0) pa_nil)) (pe_one (pe_chain op_le op_le (pv 1) (pe_callB call_len_seq (by rfl) T.z_len (by decide +kernel) (pa_cons (pv 0) pa_nil)) (pv 2)))))), ?_⟩
  refine ⟨_, rfl, v, o, rfl, hv, fun H1 s1 => ⟨_, rfl, ?_⟩⟩
  cases o with
  | none => exact iteF (q _ s1)
  | some xs =>
    have hl : ∃ a, v = .ref a ∧ (SqL K H1 a xs ∨ SqT K H1 a xs) := by
      cases hv.same s1 with
      | lst h => exact ⟨_, rfl, .inl h⟩
      | tup h => exact ⟨_, rfl, .inr h⟩
    obtain ⟨a, rfl, hs⟩ := hl
    have z : lenW (some xs) lo hi = (decide (lo ≤ (xs.length : Int)) && decide ((xs.length : Int) ≤ hi)) := rfl
    refine iteT ⟨_, rfl, _, rfl, a, xs, rfl, hs, _, _, rfl, rfl, _, rfl, ite2 (fun e => ?_) (fun e => ?_)⟩
    · refine ⟨_, rfl, _, _, rfl, rfl, ?_⟩
      rw [z, e, Bool.true_and] at q
      exact q _ s1
    · rw [z, Bool.eq_false_iff.mpr e, Bool.false_and] at q
      exact q _ s1
end
end Aq
namespace Aq
open PySem PySem.Spec PyProof.Rows L2
theorem take_snoc {α : Type} {xs : List α} {i : Nat} {x : α} (h : xs[i]? = some x) : xs.take (i + 1) = xs.take i ++ [x] := by
  rw [List.take_add_one, h]
  rfl
theorem drop_cons {α : Type} {xs : List α} {i : Nat} {x : α} (h : xs[i]? = some x) : xs.drop i = x :: xs.drop (i + 1) := by
  obtain ⟨h1, h2⟩ := List.getElem?_eq_some_iff.mp h
  rw [List.drop_eq_getElem_cons h1, h2]
section
variable {P : Program} {w : World} {K : PySem.W.Frag} {mg : Str → Option Value} {base : Heap}
theorem c_are_within (T : Txt K mg) : C8.Cal P w K mg base 3 "are_within" (spAre K) [] := by
  have C_is_sequence : C8.Cal P w K mg base 1 "is_sequence" (spIsS K) [] := c_is_sequence T
  have C_is_within : C8.Cal P w K mg base 2 "is_within" (spIsW K) [] := c_is_within T
  refine T.d_are_within.cal sc_are_within (fun vs H Q E h => ?_) (fun f cdv A outer s H vs Q E hr h => ?_)
  · obtain ⟨v, o, lo, hi, rfl, _⟩ := h
    rfl
  obtain ⟨v, o, lo, hi, rfl, hv, hx, q⟩ := h
  have turn : ∀ {xs : List V} {i : Nat} {x : V}, xs[i]? = some x → ((xs.take i).map fun x => V.bl (inW x lo hi)) ++ [V.bl (inW x lo hi)] = (xs.take (i + 1)).map fun x => V.bl (inW x lo hi) := fun h => by
    rw [take_snoc h, List.map_append]
    rfl
  have done : ∀ {xs : List V}, ((xs.take xs.length).map fun x => V.bl (inW x lo hi)) = (xs.map fun x => inW x lo hi).map V.bl := fun {xs} => by
    rw [List.take_length, List.map_map]
    rfl
  have fin : ∀ {xs : List V}, (xs.map fun x => inW x lo hi).all id = allW (some xs) lo hi := fun {xs} => by
    rw [List.all_map]
    rfl
  cases hv with
  | lst h =>
    rename_i a xs
    obtain ⟨hz, hx⟩ := hx xs rfl
    refine ⟨_, (pss_one (ps_ret (pe_and (C8.pe_c C_is_sequence hr (by omega) (by rfl) (pa_cons (pv 0) pa_nil)) (pe_one (pe_callB (cr_all rfl) (by rfl) T.z_all (by decide +kernel) (pa_cons (pe_lc (own := [("number", 3)]) (g := gName 3) (by rfl) sc_are_within.nd (pi_list (pv 0)) (blkOk_by (own := [("number", 3)]) (N := ["value", "low", "high", "number"]) (sc := defScope s_are_within) (by decide +kernel)) (fun _ _ _ _ _ => pg_name (i := 3) sc_are_within.nd rfl (Or.inl rfl)) (fun _ _ _ _ _ => pts_nil) (fun _ _ _ _ _ => (C8.pe_c C_is_within hr (by omega) (by rfl) (pa_cons (pv 3) (pa_cons (pv 1) (pa_cons (pv 2) pa_nil)))))) pa_nil)))))), ?_⟩
    refine ⟨_, rfl, _, _, rfl, .lst h, fun H1 s1 => ⟨_, rfl, iteT ?_⟩⟩
    refine ⟨_, rfl, a, rfl, ⟨_, s1.seq h⟩, fun D hD => lc_list (K := K) (a := a) (xs := xs) (fun i H' => Same H1 H' ∧ H' D = some (.lst ((xs.take i).map fun x => V.bl (inW x lo hi)))) ⟨grow hD, upd_same⟩ (fun i H' _ z => z.1.seq (s1.seq h)) ?_ ?_⟩
    · rintro i x H' hi' ⟨sm, e⟩
      obtain ⟨o', ho⟩ := hx x (List.mem_of_getElem? hi')
      refine ⟨rfl, ?_⟩
      refine ⟨_, rfl, _, rfl, _, rfl, x, o', lo, hi, rfl, ho.same (s1.trans sm), _, e, ?_, fun b u z => ?_, ?_⟩
      · rw [List.length_map, List.length_take]
        exact small1000' (by omega)
      · rw [upd_ne (ne_of_none z hD)]
        exact sm b u z
      · rw [upd_same, turn hi']
    · rintro H' ⟨sm, e⟩
      rw [done] at e
      refine ⟨D, _, rfl, SqL.of e, ?_⟩
      rw [fin]
      exact q _ (s1.trans sm)
  | tup h =>
    rename_i a xs
    obtain ⟨hz, hx⟩ := hx xs rfl
    refine ⟨_, (pss_one (ps_ret (pe_and (C8.pe_c C_is_sequence hr (by omega) (by rfl) (pa_cons (pv 0) pa_nil)) (pe_one (pe_callB (cr_all rfl) (by rfl) T.z_all (by decide +kernel) (pa_cons (pe_lc (own := [("number", 3)]) (g := gName 3) (by rfl) sc_are_within.nd (pi_tup (pv 0)) (blkOk_by (own := [("number", 3)]) (N := ["value", "low", "high", "number"]) (sc := defScope s_are_within) (by decide +kernel)) (fun _ _ _ _ _ => pg_name (i := 3) sc_are_within.nd rfl (Or.inl rfl)) (fun _ _ _ _ _ => pts_nil) (fun _ _ _ _ _ => (C8.pe_c C_is_within hr (by omega) (by rfl) (pa_cons (pv 3) (pa_cons (pv 1) (pa_cons (pv 2) pa_nil)))))) pa_nil)))))), ?_⟩
    refine ⟨_, rfl, _, _, rfl, .tup h, fun H1 s1 => ⟨_, rfl, iteT ?_⟩⟩
    refine ⟨_, rfl, a, rfl, ⟨_, Same.sqT s1 h⟩, fun D hD => lc_tup (K := K) (a := a) (xs := xs) (fun i H' => Same H1 H' ∧ H' D = some (.lst ((xs.take i).map fun x => V.bl (inW x lo hi)))) ⟨grow hD, upd_same⟩ (fun i H' _ z => Same.sqT z.1 (Same.sqT s1 h)) ?_ ?_⟩
    · rintro i x H' hi' ⟨sm, e⟩
      obtain ⟨o', ho⟩ := hx x (List.mem_of_getElem? hi')
      refine ⟨rfl, ?_⟩
      refine ⟨_, rfl, _, rfl, _, rfl, x, o', lo, hi, rfl, ho.same (s1.trans sm), _, e, ?_, fun b u z => ?_, ?_⟩
      · rw [List.length_map, List.length_take]
        exact small1000' (by omega)
      · rw [upd_ne (ne_of_none z hD)]
        exact sm b u z
      · rw [upd_same, turn hi']
    · rintro H' ⟨sm, e⟩
      rw [done] at e
      refine ⟨D, _, rfl, SqL.of e, ?_⟩
      rw [fin]
      exact q _ (s1.trans sm)
  | non => exact ⟨_, (pss_one (ps_ret (pe_and (C8.pe_c C_is_sequence hr (by omega) (by rfl) (pa_cons (pv 0) pa_nil)) (pe_one (pe_callB (cr_all rfl) (by rfl) T.z_all (by decide +kernel) (pa_cons (pe_lc (own := [("number", 3)]) (g := gName 3) (by rfl) sc_are_within.nd (pi_list (pv 0)) (blkOk_by (own := [("number", 3)]) (N := ["value", "low", "high", "number"]) (sc := defScope s_are_within) (by decide +kernel)) (fun _ _ _ _ _ => pg_name (i := 3) sc_are_within.nd rfl (Or.inl rfl)) (fun _ _ _ _ _ => pts_nil) (fun _ _ _ _ _ => (C8.pe_c C_is_within hr (by omega) (by rfl) (pa_cons (pv 3) (pa_cons (pv 1) (pa_cons (pv 2) pa_nil)))))) pa_nil)))))), ⟨_, rfl, _, _, rfl, .non, fun H1 s1 => ⟨_, rfl, iteF (q _ s1)⟩⟩⟩
  | bl b => exact ⟨_, (pss_one (ps_ret (pe_and (C8.pe_c C_is_sequence hr (by omega) (by rfl) (pa_cons (pv 0) pa_nil)) (pe_one (pe_callB (cr_all rfl) (by rfl) T.z_all (by decide +kernel) (pa_cons (pe_lc (own := [("number", 3)]) (g := gName 3) (by rfl) sc_are_within.nd (pi_list (pv 0)) (blkOk_by (own := [("number", 3)]) (N := ["value", "low", "high", "number"]) (sc := defScope s_are_within) (by decide +kernel)) (fun _ _ _ _ _ => pg_name (i := 3) sc_are_within.nd rfl (Or.inl rfl)) (fun _ _ _ _ _ => pts_nil) (fun _ _ _ _ _ => (C8.pe_c C_is_within hr (by omega) (by rfl) (pa_cons (pv 3) (pa_cons (pv 1) (pa_cons (pv 2) pa_nil)))))) pa_nil)))))), ⟨_, rfl, _, _, rfl, .bl _, fun H1 s1 => ⟨_, rfl, iteF (q _ s1)⟩⟩⟩
  | int b => exact ⟨_, (pss_one (ps_ret (pe_and (C8.pe_c C_is_sequence hr (by omega) (by rfl) (pa_cons (pv 0) pa_nil)) (pe_one (pe_callB (cr_all rfl) (by rfl) T.z_all (by decide +kernel) (pa_cons (pe_lc (own := [("number", 3)]) (g := gName 3) (by rfl) sc_are_within.nd (pi_list (pv 0)) (blkOk_by (own := [("number", 3)]) (N := ["value", "low", "high", "number"]) (sc := defScope s_are_within) (by decide +kernel)) (fun _ _ _ _ _ => pg_name (i := 3) sc_are_within.nd rfl (Or.inl rfl)) (fun _ _ _ _ _ => pts_nil) (fun _ _ _ _ _ => (C8.pe_c C_is_within hr (by omega) (by rfl) (pa_cons (pv 3) (pa_cons (pv 1) (pa_cons (pv 2) pa_nil)))))) pa_nil)))))), ⟨_, rfl, _, _, rfl, .int _, fun H1 s1 => ⟨_, rfl, iteF (q _ s1)⟩⟩⟩
  | str b => exact ⟨_, (pss_one (ps_ret (pe_and (C8.pe_c C_is_sequence hr (by omega) (by rfl) (pa_cons (pv 0) pa_nil)) (pe_one (pe_callB (cr_all rfl) (by rfl) T.z_all (by decide +kernel) (pa_cons (pe_lc (own := [("number", 3)]) (g := gName 3) (by rfl) sc_are_within.nd (pi_list (pv 0)) (blkOk_by (own := [("number", 3)]) (N := ["value", "low", "high", "number"]) (sc := defScope s_are_within) (by decide +kernel)) (fun _ _ _ _ _ => pg_name (i := 3) sc_are_within.nd rfl (Or.inl rfl)) (fun _ _ _ _ _ => pts_nil) (fun _ _ _ _ _ => (C8.pe_c C_is_within hr (by omega) (by rfl) (pa_cons (pv 3) (pa_cons (pv 1) (pa_cons (pv 2) pa_nil)))))) pa_nil)))))), ⟨_, rfl, _, _, rfl, .str _, fun H1 s1 => ⟨_, rfl, iteF (q _ s1)⟩⟩⟩
theorem c_is_ascending (T : Txt K mg) : C8.Cal P w K mg base 3 "is_ascending" (spAsc K) [] := by
  have C_is_sequence : C8.Cal P w K mg base 1 "is_sequence" (spIsS K) [] := c_is_sequence T
  have C_is_within : C8.Cal P w K mg base 2 "is_within" (spIsW K) [] := c_is_within T
  refine T.d_is_ascending.cal sc_is_ascending (fun vs H Q E h => ?_) (fun f cdv A outer s H vs Q E hr h => ?_)
  · obtain ⟨v, o, many, rfl, _⟩ := h
    rfl
  obtain ⟨v, o, many, rfl, hv, hx, q⟩ := h
  cases hv with
  | lst h =>
    rename_i a xs
    refine ⟨_, (pss_cons (ps_if (pt_not (pt_val (C8.pe_c C_is_sequence hr (by omega) (by rfl) (pa_cons (pv 0) pa_nil))))
    (pss_one (ps_ret pe_bl))
    pss_nil)
  (pss_cons (ps_set (i := 2) sc_is_ascending.nd rfl (.inl rfl) pe_int)
  (pss_cons (ps_for PassesOwn.never rfl (pi_list (pv 0)) (pg_name (i := 3) sc_is_ascending.nd rfl (.inl rfl))
    (pss_cons (ps_if (pt_not (pt_val (C8.pe_c C_is_within hr (by omega) (by rfl) (pa_cons (pv 3) (pa_cons (pv 2) (pa_cons (pe_op op_sub (pv 1) pe_int) pa_nil))))))
    (pss_one (ps_ret pe_bl))
    pss_nil)
  (pss_one (ps_set (i := 2) sc_is_ascending.nd rfl (.inl rfl) (pe_op op_add (pv 3) pe_int)))))
  (pss_one (ps_ret pe_bl))))), ?_⟩
    refine ⟨_, rfl, _, _, rfl, .lst h, fun H1 s1 => ⟨_, rfl, iteF ?_⟩⟩
    refine ⟨_, rfl, a, rfl, ⟨_, s1.seq h⟩, for_list (K := K) (a := a) (xs := xs) (fun i σ H' => ∃ l y, σ = [some (.ref a), some (.int many), some (.int l), y] ∧ Same H H' ∧ ascW xs 0 many = ascW (xs.drop i) l many) ⟨0, none, rfl, s1, rfl⟩ (fun i σ H' _ ⟨_, _, _, z, _⟩ => z.seq h) ?_ ?_⟩
    · rintro i x σ H' hi' ⟨l, y, rfl, sm, e⟩
      obtain ⟨o', ho⟩ := hx xs rfl x (List.mem_of_getElem? hi')
      rw [drop_cons hi'] at e
      refine ⟨_, rfl, _, rfl, _, rfl, _, _, rfl, rfl, x, o', l, many - 1, rfl, ho.same sm, _, rfl, ?_⟩
      cases hw : inW x l (many - 1) with
      | false =>
        refine iteT ?_
        have z : ascO (some xs) many = false := by
          show ascW xs 0 many = false
          rw [e]
          show (inW x l (many - 1) && _) = false
          rw [hw, Bool.false_and]
        rw [z] at q
        exact q _ sm
      | true =>
        refine iteF ?_
        obtain ⟨j, rfl⟩ : ∃ j, x = .int j := by
          cases x <;> first | exact ⟨_, rfl⟩ | (cases hw)
        refine ⟨_, rfl, _, _, rfl, rfl, _, _, rfl, sm, ?_⟩
        rw [e]
        show (inW (.int j) l (many - 1) && _) = _
        rw [hw, Bool.true_and]
    · rintro σ H' ⟨l, y, rfl, sm, e⟩
      rw [List.drop_length] at e
      have z : ascO (some xs) many = true := e
      rw [z] at q
      exact q _ sm
  | tup h =>
    rename_i a xs
    refine ⟨_, (pss_cons (ps_if (pt_not (pt_val (C8.pe_c C_is_sequence hr (by omega) (by rfl) (pa_cons (pv 0) pa_nil))))
    (pss_one (ps_ret pe_bl))
    pss_nil)
  (pss_cons (ps_set (i := 2) sc_is_ascending.nd rfl (.inl rfl) pe_int)
  (pss_cons (ps_for PassesOwn.never rfl (pi_tup (pv 0)) (pg_name (i := 3) sc_is_ascending.nd rfl (.inl rfl))
    (pss_cons (ps_if (pt_not (pt_val (C8.pe_c C_is_within hr (by omega) (by rfl) (pa_cons (pv 3) (pa_cons (pv 2) (pa_cons (pe_op op_sub (pv 1) pe_int) pa_nil))))))
    (pss_one (ps_ret pe_bl))
    pss_nil)
  (pss_one (ps_set (i := 2) sc_is_ascending.nd rfl (.inl rfl) (pe_op op_add (pv 3) pe_int)))))
  (pss_one (ps_ret pe_bl))))), ?_⟩
    refine ⟨_, rfl, _, _, rfl, .tup h, fun H1 s1 => ⟨_, rfl, iteF ?_⟩⟩
    refine ⟨_, rfl, a, rfl, ⟨_, Same.sqT s1 h⟩, for_tup (K := K) (a := a) (xs := xs) (fun i σ H' => ∃ l y, σ = [some (.ref a), some (.int many), some (.int l), y] ∧ Same H H' ∧ ascW xs 0 many = ascW (xs.drop i) l many) ⟨0, none, rfl, s1, rfl⟩ (fun i σ H' _ ⟨_, _, _, z, _⟩ => Same.sqT z h) ?_ ?_⟩
    · rintro i x σ H' hi' ⟨l, y, rfl, sm, e⟩
      obtain ⟨o', ho⟩ := hx xs rfl x (List.mem_of_getElem? hi')
      rw [drop_cons hi'] at e
      refine ⟨_, rfl, _, rfl, _, rfl, _, _, rfl, rfl, x, o', l, many - 1, rfl, ho.same sm, _, rfl, ?_⟩
      cases hw : inW x l (many - 1) with
      | false =>
        refine iteT ?_
        have z : ascO (some xs) many = false := by
          show ascW xs 0 many = false
          rw [e]
          show (inW x l (many - 1) && _) = false
          rw [hw, Bool.false_and]
        rw [z] at q
        exact q _ sm
      | true =>
        refine iteF ?_
        obtain ⟨j, rfl⟩ : ∃ j, x = .int j := by
          cases x <;> first | exact ⟨_, rfl⟩ | (cases hw)
        refine ⟨_, rfl, _, _, rfl, rfl, _, _, rfl, sm, ?_⟩
        rw [e]
        show (inW (.int j) l (many - 1) && _) = _
        rw [hw, Bool.true_and]
    · rintro σ H' ⟨l, y, rfl, sm, e⟩
      rw [List.drop_length] at e
      have z : ascO (some xs) many = true := e
      rw [z] at q
      exact q _ sm
  | non => exact ⟨_, (pss_cons (ps_if (pt_not (pt_val (C8.pe_c C_is_sequence hr (by omega) (by rfl) (pa_cons (pv 0) pa_nil))))
    (pss_one (ps_ret pe_bl))
    pss_nil)
  (pss_cons (ps_set (i := 2) sc_is_ascending.nd rfl (.inl rfl) pe_int)
  (pss_cons (ps_for PassesOwn.never rfl (pi_list (pv 0)) (pg_name (i := 3) sc_is_ascending.nd rfl (.inl rfl))
    (pss_cons (ps_if (pt_not (pt_val (C8.pe_c C_is_within hr (by omega) (by rfl) (pa_cons (pv 3) (pa_cons (pv 2) (pa_cons (pe_op op_sub (pv 1) pe_int) pa_nil))))))
    (pss_one (ps_ret pe_bl))
    pss_nil)
  (pss_one (ps_set (i := 2) sc_is_ascending.nd rfl (.inl rfl) (pe_op op_add (pv 3) pe_int)))))
  (pss_one (ps_ret pe_bl))))), ⟨_, rfl, _, _, rfl, .non, fun H1 s1 => ⟨_, rfl, iteT (q _ s1)⟩⟩⟩
  | bl b => exact ⟨_, (pss_cons (ps_if (pt_not (pt_val (C8.pe_c C_is_sequence hr (by omega) (by rfl) (pa_cons (pv 0) pa_nil))))
    (pss_one (ps_ret pe_bl))
    pss_nil)
  (pss_cons (ps_set (i := 2) sc_is_ascending.nd rfl (.inl rfl) pe_int)
  (pss_cons (ps_for PassesOwn.never rfl (pi_list (pv 0)) (pg_name (i := 3) sc_is_ascending.nd rfl (.inl rfl))
    (pss_cons (ps_if (pt_not (pt_val (C8.pe_c C_is_within hr (by omega) (by rfl) (pa_cons (pv 3) (pa_cons (pv 2) (pa_cons (pe_op op_sub (pv 1) pe_int) pa_nil))))))
    (pss_one (ps_ret pe_bl))
    pss_nil)
  (pss_one (ps_set (i := 2) sc_is_ascending.nd rfl (.inl rfl) (pe_op op_add (pv 3) pe_int)))))
  (pss_one (ps_ret pe_bl))))), ⟨_, rfl, _, _, rfl, .bl _, fun H1 s1 => ⟨_, rfl, iteT (q _ s1)⟩⟩⟩
  | int b => exact ⟨_, (pss_cons (ps_if (pt_not (pt_val (C8.pe_c C_is_sequence hr (by omega) (by rfl) (pa_cons (pv 0) pa_nil))))
    (pss_one (ps_ret pe_bl))
    pss_nil)
  (pss_cons (ps_set (i := 2) sc_is_ascending.nd rfl (.inl rfl) pe_int)
  (pss_cons (ps_for PassesOwn.never rfl (pi_list (pv 0)) (pg_name (i := 3) sc_is_ascending.nd rfl (.inl rfl))
    (pss_cons (ps_if (pt_not (pt_val (C8.pe_c C_is_within hr (by omega) (by rfl) (pa_cons (pv 3) (pa_cons (pv 2) (pa_cons (pe_op op_sub (pv 1) pe_int) pa_nil))))))
    (pss_one (ps_ret pe_bl))
    pss_nil)
  (pss_one (ps_set (i := 2) sc_is_ascending.nd rfl (.inl rfl) (pe_op op_add (pv 3) pe_int)))))
  (pss_one (ps_ret pe_bl))))), ⟨_, rfl, _, _, rfl, .int _, fun H1 s1 => ⟨_, rfl, iteT (q _ s1)⟩⟩⟩
  | str b => exact ⟨_, (pss_cons (ps_if (pt_not (pt_val (C8.pe_c C_is_sequence hr (by omega) (by rfl) (pa_cons (pv 0) pa_nil))))
    (pss_one (ps_ret pe_bl))
    pss_nil)
  (pss_cons (ps_set (i := 2) sc_is_ascending.nd rfl (.inl rfl) pe_int)
  (pss_cons (ps_for PassesOwn.never rfl (pi_list (pv 0)) (pg_name (i := 3) sc_is_ascending.nd rfl (.inl rfl))
    (pss_cons (ps_if (pt_not (pt_val (C8.pe_c C_is_within hr (by omega) (by rfl) (pa_cons (pv 3) (pa_cons (pv 2) (pa_cons (pe_op op_sub (pv 1) pe_int) pa_nil))))))
    (pss_one (ps_ret pe_bl))
    pss_nil)
  (pss_one (ps_set (i := 2) sc_is_ascending.nd rfl (.inl rfl) (pe_op op_add (pv 3) pe_int)))))
  (pss_one (ps_ret pe_bl))))), ⟨_, rfl, _, _, rfl, .str _, fun H1 s1 => ⟨_, rfl, iteT (q _ s1)⟩⟩⟩
end
end Aq
namespace Aq
open PySem PySem.Spec PyProof.Rows L2
section
variable {P : Program} {w : World} {K : PySem.W.Frag} {mg : Str → Option Value} {base : Heap}
theorem len2 {xs : List V} : lenW (some xs) 2 2 = true ↔ ∃ a b, xs = [a, b] := by
  show (decide ((2 : Int) ≤ (xs.length : Int)) && decide ((xs.length : Int) ≤ 2)) = true ↔ _
  constructor
  · intro h
    simp at h
    match xs, h with
    | [a, b], _ => exact ⟨a, b, rfl⟩
    | [], h => simp at h
    | [_], h => simp at h
    | _ :: _ :: _ :: _, h => simp at h; omega
  · rintro ⟨a, b, rfl⟩
    rfl
theorem isTask_no {o : Option (List V)} (h : lenW o 2 2 = false) : isTask o = false := by
  match o with
  | none => rfl
  | some [] => rfl
  | some [_] => rfl
  | some [_, _] => cases h
  | some (_ :: _ :: _ :: _) => rfl
theorem isPair_no {o : Option (List V)} {n : Int} (h : lenW o 2 2 = false) : isPair o n = false := by
  match o with
  | none => rfl
  | some [] => rfl
  | some [_] => rfl
  | some [_, _] => cases h
  | some (_ :: _ :: _ :: _) => rfl
theorem isArc_no {o : Option (List V)} {n m : Int} (h : lenW o 2 2 = false) : isArc o n m = false := by
  match o with
  | none => rfl
  | some [] => rfl
  | some [_] => rfl
  | some [_, _] => cases h
  | some (_ :: _ :: _ :: _) => rfl
theorem two_of {o : Option (List V)} (h : lenW o 2 2 = true) : ∃ a b, o = some [a, b] := by
  match o with
  | none => cases h
  | some xs =>
    obtain ⟨a, b, rfl⟩ := len2.mp h
    exact ⟨a, b, rfl⟩
theorem c_is_slips (T : Txt K mg) : C8.Cal P w K mg base 3 "is_slips" (spSlips K) [] := by
  have C_is_within : C8.Cal P w K mg base 2 "is_within" (spIsW K) [] := c_is_within T
  refine T.d_is_slips.cal sc_is_slips (fun vs H Q E h => ?_) (fun f cdv A outer s H vs Q E hr h => ?_)
  · obtain ⟨v, o, rfl, _⟩ := h
    rfl
  obtain ⟨v, o, rfl, hv, q⟩ := h
  refine ⟨_, (pss_one (ps_ret (pe_or (pe_cmpR op_isN (pv 0) pe_non (nomark _)) (pe_one (C8.pe_c C_is_within hr (by omega) (by rfl) (pa_cons (pv 0) (pa_cons pe_int (pa_cons (C8.pe_gc (by rfl) T.m_MOST_SLIPS) pa_nil)))))))), ?_⟩
  cases v with
  | non => exact ⟨_, rfl, rfl, _, rfl, iteT q⟩
  | _ => exact ⟨_, rfl, rfl, _, rfl, iteF ⟨_, rfl, _, o, 0, 8, rfl, hv, q⟩⟩
theorem c_is_task (T : Txt K mg) : C8.Cal P w K mg base 4 "is_task" (spTask K) [] := by
  have C_is_within : C8.Cal P w K mg base 2 "is_within" (spIsW K) [] := c_is_within T
  have C_has_length : C8.Cal P w K mg base 2 "has_length" (spLen K) [] := c_has_length T
  refine T.d_is_task.cal sc_is_task (fun vs H Q E h => ?_) (fun f cdv A outer s H vs Q E hr h => ?_)
  · obtain ⟨v, o, rfl, _⟩ := h
    rfl
  obtain ⟨v, o, rfl, hv, hk, q⟩ := h
  cases hl : lenW o 2 2 with
  | false =>
    rw [isTask_no hl] at q
    refine ⟨_, (pss_cons (ps_if (pt_not (pt_val (C8.pe_c C_has_length hr (by omega) (by rfl) (pa_cons (pv 0) (pa_cons pe_int (pa_cons pe_int pa_nil))))))
    (pss_one (ps_ret pe_bl))
    pss_nil)
  (pss_cons (ps_asg (pv 0) (pg_tup (by rfl) (pgs_cons (pg_name (i := 1) sc_is_task.nd rfl (.inl rfl)) (pgs_cons (pg_name (i := 2) sc_is_task.nd rfl (.inl rfl)) pgs_nil))))
  (pss_one (ps_ret (pe_and (C8.pe_c C_is_within hr (by omega) (by rfl) (pa_cons (pv 2) (pa_cons pe_int (pa_cons (C8.pe_gc (by rfl) T.m_MOST_TIME) pa_nil)))) (pe_one (C8.pe_c C_is_within hr (by omega) (by rfl) (pa_cons (pv 1) (pa_cons pe_int (pa_cons (pv 2) pa_nil)))))))))), ⟨_, rfl, v, o, 2, 2, rfl, hv, fun H1 s1 => ⟨_, rfl, ?_⟩⟩⟩
    rw [hl]
    exact iteT (q _ s1)
  | true =>
    obtain ⟨u, p, rfl⟩ := two_of hl
    obtain ⟨_, hx⟩ := hk _ rfl
    obtain ⟨ou, hu⟩ := hx u (by simp)
    obtain ⟨op, hp⟩ := hx p (by simp)
    have rest : ∀ (H1 : Hp), Same H H1 → ∀ z, inW p 0 10000 = z → (z = false → Q (.bl false) H1) ∧ (z = true → ∀ i, p = .int i → Q (.bl (inW u 0 i)) H1) := fun H1 s1 z hz => by
      refine ⟨fun e => ?_, fun e i ei => ?_⟩
      · have y : isTask (some [u, p]) = false := by
          show (inW p 0 10000 && _) = false
          rw [hz, e, Bool.false_and]
        rw [y] at q
        exact q _ s1
      · have y : isTask (some [u, p]) = inW u 0 i := by
          show (inW p 0 10000 && inW u 0 (intOf p)) = _
          rw [hz, e, Bool.true_and, ei]
          rfl
        rw [y] at q
        exact q _ s1
    cases hv with
    | tup ht =>
      refine ⟨_, (pss_cons (ps_if (pt_not (pt_val (C8.pe_c C_has_length hr (by omega) (by rfl) (pa_cons (pv 0) (pa_cons pe_int (pa_cons pe_int pa_nil))))))
    (pss_one (ps_ret pe_bl))
    pss_nil)
  (pss_cons (ps_asg (pv 0) (pg_tup (by rfl) (pgs_cons (pg_name (i := 1) sc_is_task.nd rfl (.inl rfl)) (pgs_cons (pg_name (i := 2) sc_is_task.nd rfl (.inl rfl)) pgs_nil))))
  (pss_one (ps_ret (pe_and (C8.pe_c C_is_within hr (by omega) (by rfl) (pa_cons (pv 2) (pa_cons pe_int (pa_cons (C8.pe_gc (by rfl) T.m_MOST_TIME) pa_nil)))) (pe_one (C8.pe_c C_is_within hr (by omega) (by rfl) (pa_cons (pv 1) (pa_cons pe_int (pa_cons (pv 2) pa_nil)))))))))), ⟨_, rfl, _, _, 2, 2, rfl, .tup ht, fun H1 s1 => ⟨_, rfl, iteF ?_⟩⟩⟩
      refine ⟨_, rfl, _, _, rfl, Same.sqT s1 ht, rfl, u, [p], rfl, p, [], rfl, rfl, ?_⟩
      refine ⟨_, rfl, p, op, 0, 10000, rfl, hp.same s1, _, rfl, ?_⟩
      cases hz : inW p 0 10000 with
      | false => exact iteF ((rest H1 s1 _ hz).1 rfl)
      | true =>
        obtain ⟨i, rfl, _⟩ := inW_int hz
        exact iteT ⟨_, rfl, _, rfl, u, ou, 0, i, rfl, hu.same s1, (rest H1 s1 _ hz).2 rfl i rfl⟩
    | lst ht =>
      refine ⟨_, (pss_cons (ps_if (pt_not (pt_val (C8.pe_c C_has_length hr (by omega) (by rfl) (pa_cons (pv 0) (pa_cons pe_int (pa_cons pe_int pa_nil))))))
    (pss_one (ps_ret pe_bl))
    pss_nil)
  (pss_cons (ps_asg (pv 0) (pg_unl (by rfl) (pgs_cons (pg_name (i := 1) sc_is_task.nd rfl (.inl rfl)) (pgs_cons (pg_name (i := 2) sc_is_task.nd rfl (.inl rfl)) pgs_nil))))
  (pss_one (ps_ret (pe_and (C8.pe_c C_is_within hr (by omega) (by rfl) (pa_cons (pv 2) (pa_cons pe_int (pa_cons (C8.pe_gc (by rfl) T.m_MOST_TIME) pa_nil)))) (pe_one (C8.pe_c C_is_within hr (by omega) (by rfl) (pa_cons (pv 1) (pa_cons pe_int (pa_cons (pv 2) pa_nil)))))))))), ⟨_, rfl, _, _, 2, 2, rfl, .lst ht, fun H1 s1 => ⟨_, rfl, iteF ?_⟩⟩⟩
      refine ⟨_, rfl, _, _, rfl, s1.seq ht, rfl, u, [p], rfl, p, [], rfl, rfl, ?_⟩
      refine ⟨_, rfl, p, op, 0, 10000, rfl, hp.same s1, _, rfl, ?_⟩
      cases hz : inW p 0 10000 with
      | false => exact iteF ((rest H1 s1 _ hz).1 rfl)
      | true =>
        obtain ⟨i, rfl, _⟩ := inW_int hz
        exact iteT ⟨_, rfl, _, rfl, u, ou, 0, i, rfl, hu.same s1, (rest H1 s1 _ hz).2 rfl i rfl⟩
theorem seq_at {K : PySem.W.Frag} {H : Hp} {v : V} {xs : List V} {i : Nat} {x : V} {Q : VK} (h : Vw K H v (some xs)) (hx : xs[i]? = some x) (q : Q x H) : rIx K v (.int (i : Int)) H Q := by
  cases h with
  | lst h => exact .inl ⟨_, xs, _, x, rfl, rfl, h, atI_nat hx, q⟩
  | tup h => exact .inr (.inl ⟨_, xs, _, x, rfl, rfl, h, atI_nat hx, q⟩)
theorem c_is_pair (T : Txt K mg) : C8.Cal P w K mg base 4 "is_pair" (spPair K) [] := by
  have C_are_within : C8.Cal P w K mg base 3 "are_within" (spAre K) [] := c_are_within T
  have C_has_length : C8.Cal P w K mg base 2 "has_length" (spLen K) [] := c_has_length T
  refine T.d_is_pair.cal sc_is_pair (fun vs H Q E h => ?_) (fun f cdv A outer s H vs Q E hr h => ?_)
  · obtain ⟨v, o, n, rfl, _⟩ := h
    rfl
  obtain ⟨v, o, n, rfl, hv, hk, q⟩ := h
  refine ⟨_, (pss_one (ps_ret (pe_and (C8.pe_c C_has_length hr (by omega) (by rfl) (pa_cons (pv 0) (pa_cons pe_int (pa_cons pe_int pa_nil)))) (pe_and (C8.pe_c C_are_within hr (by omega) (by rfl) (pa_cons (pv 0) (pa_cons pe_int (pa_cons (pe_op op_sub (pv 1) pe_int) pa_nil)))) (pe_one (pe_cmpR op_ne (pe_ix ix_seq (pv 0) pe_int (fun _ _ => rfl)) (pe_ix ix_seq (pv 0) pe_int (fun _ _ => rfl)) (nomark _))))))), ?_⟩
  refine ⟨_, rfl, v, o, 2, 2, rfl, hv, fun H1 s1 => ⟨_, rfl, ?_⟩⟩
  cases hl : lenW o 2 2 with
  | false =>
    rw [isPair_no hl] at q
    exact iteF (q _ s1)
  | true =>
    refine iteT ?_
    obtain ⟨a, b, rfl⟩ := two_of hl
    refine ⟨_, rfl, _, rfl, _, _, rfl, rfl, v, _, 0, n - 1, rfl, hv.same s1, fun xs e => ⟨((hk.same s1) xs e).1, ((hk.same s1) xs e).2⟩, fun H2 s2 => ⟨_, rfl, ?_⟩⟩
    have y : isPair (some [a, b]) n = (inW a 0 (n - 1) && inW b 0 (n - 1) && decide (intOf a ≠ intOf b)) := rfl
    have y2 : allW (some [a, b]) 0 (n - 1) = (inW a 0 (n - 1) && inW b 0 (n - 1)) := by
      show (inW a 0 (n - 1) && (inW b 0 (n - 1) && true)) = _
      rw [Bool.and_true]
    rw [y] at q
    rw [y2]
    cases hz : (inW a 0 (n - 1) && inW b 0 (n - 1)) with
    | false =>
      rw [hz, Bool.false_and] at q
      exact iteF (q _ (s1.trans s2))
    | true =>
      rw [hz, Bool.true_and] at q
      obtain ⟨ha, hb⟩ := Bool.and_eq_true_iff.mp hz
      obtain ⟨i, rfl, _⟩ := inW_int ha
      obtain ⟨j, rfl, _⟩ := inW_int hb
      refine iteT ⟨_, rfl, seq_at (i := 0) (hv.same (s1.trans s2)) rfl ⟨_, rfl, seq_at (i := 1) (hv.same (s1.trans s2)) rfl ⟨rfl, ?_⟩⟩⟩
      have z : (!decide (V.int i = V.int j)) = decide (intOf (.int i) ≠ intOf (.int j)) := by
        show _ = decide (¬ (i = j))
        rw [decide_not]
        congr 1
        exact decide_eq_decide.mpr ⟨fun e => V.int.inj e, fun e => by rw [e]⟩
      rw [z]
      exact q _ (s1.trans s2)
theorem c_is_arc (T : Txt K mg) : C8.Cal P w K mg base 4 "is_arc" (spArc K) [] := by
  have C_is_within : C8.Cal P w K mg base 2 "is_within" (spIsW K) [] := c_is_within T
  have C_has_length : C8.Cal P w K mg base 2 "has_length" (spLen K) [] := c_has_length T
  refine T.d_is_arc.cal sc_is_arc (fun vs H Q E h => ?_) (fun f cdv A outer s H vs Q E hr h => ?_)
  · obtain ⟨v, o, n, m, rfl, _⟩ := h
    rfl
  obtain ⟨v, o, n, m, rfl, hv, hk, q⟩ := h
  refine ⟨_, (pss_one (ps_ret (pe_and (C8.pe_c C_has_length hr (by omega) (by rfl) (pa_cons (pv 0) (pa_cons pe_int (pa_cons pe_int pa_nil)))) (pe_and (C8.pe_c C_is_within hr (by omega) (by rfl) (pa_cons (pe_ix ix_seq (pv 0) pe_int (fun _ _ => rfl)) (pa_cons pe_int (pa_cons (pe_op op_sub (pv 1) pe_int) pa_nil)))) (pe_one (C8.pe_c C_is_within hr (by omega) (by rfl) (pa_cons (pe_ix ix_seq (pv 0) pe_int (fun _ _ => rfl)) (pa_cons pe_int (pa_cons (pe_op op_sub (pv 2) pe_int) pa_nil))))))))), ?_⟩
  refine ⟨_, rfl, v, o, 2, 2, rfl, hv, fun H1 s1 => ⟨_, rfl, ?_⟩⟩
  cases hl : lenW o 2 2 with
  | false =>
    rw [isArc_no hl] at q
    exact iteF (q _ s1)
  | true =>
    refine iteT ?_
    obtain ⟨a, b, rfl⟩ := two_of hl
    obtain ⟨_, hx⟩ := hk _ rfl
    obtain ⟨oa, ha⟩ := hx a (by simp)
    obtain ⟨ob, hb⟩ := hx b (by simp)
    have y : isArc (some [a, b]) n m = (inW a 0 (n - 1) && inW b 0 (m - 1)) := rfl
    rw [y] at q
    refine ⟨_, rfl, seq_at (i := 0) (hv.same s1) rfl ⟨_, rfl, _, _, rfl, rfl, a, oa, 0, n - 1, rfl, ha.same s1, _, rfl, ?_⟩⟩
    cases hz : inW a 0 (n - 1) with
    | false =>
      rw [hz, Bool.false_and] at q
      exact iteF (q _ s1)
    | true =>
      rw [hz, Bool.true_and] at q
      exact iteT ⟨_, rfl, seq_at (i := 1) (hv.same s1) rfl ⟨_, rfl, _, _, rfl, rfl, b, ob, 0, m - 1, rfl, hb.same s1, q _ s1⟩⟩
end
end Aq
namespace Aq
open PySem PySem.Spec PyProof.Rows L2
/-- a list that is written over: the tuples stay -/
theorem stay_set {K : PySem.W.Frag} {H : Hp} {D : Addr} {xs ys : List V} (h : H D = some (.lst xs)) : Stay K H (upd H D (.lst ys)) := fun a zs t => by
  rcases t with (t | ⟨o, t⟩) | t
  · exact .inl (.inl (by rw [upd_ne (ne_of t h (by intro z; cases z))]; exact t))
  · exact .inl (.inr ⟨o, by rw [upd_ne (ne_of t h (by intro z; cases z))]; exact t⟩)
  · exact .inr t
/-- a list that was new is written over -/
theorem same_set {H H' : Hp} {D : Addr} {o : HO} (s : Same H H') (h : H D = none) : Same H (upd H' D o) := fun b u e => by
  rw [upd_ne (ne_of_none e h)]
  exact s b u e
def rTO (K : PySem.W.Frag) : List V → Hp → VK → Prop := fun xs H Q => ∃ p ys, xs = [.ref p] ∧ ((SqL K H p ys ∧ ∀ l, H l = none → Q (.ref l) (upd H l (.tup ys))) ∨ (SqT K H p ys ∧ Q (.ref p) H))
theorem to_t1 {K : PySem.W.Frag} {σ : L2.St} {H : Hp} {j : Nat} {x : V} {y : List Int} {Q : VK} (hj : σ[j]? = some (some x)) (h : SL K I0 H x y) (q : ∀ w H', Same H H' → T1 K H' w y → Q w H') : tCB (rTO K) (tCons (tVar j) tNil) σ H Q := by
  obtain ⟨a, xs, rfl, hs, p, z⟩ := h
  have e := pd_int p
  subst e
  refine ⟨_, hj, a, y.map V.int, rfl, ?_⟩
  rcases hs with hs | hs
  · exact .inl ⟨hs, fun l hl => q _ _ (grow hl) ⟨l, rfl, SqT.of upd_same, z⟩⟩
  · exact .inr ⟨hs, q _ _ (Same.refl _) ⟨a, rfl, hs, z⟩⟩
/-- a turn of [tuple(x) for x in xs] -/
theorem to_turn {K : PySem.W.Frag} {σ : L2.St} {H0 H1 : Hp} {D : Addr} {i j : Nat} {x : V} {y : List Int} {l : List (List Int)} {acc : List V} (hj : σ[j]? = some (some x)) (hy : l[i]? = some y) (hl : l.length ≤ 1000) (hD : H0 D = none) (sm : Same H0 H1) (eD : H1 D = some (.lst acc))
    (pa : Paired (T1 K H1) acc (l.take i)) (h : SL K I0 H1 x y) :
    tCB (rTO K) (tCons (tVar j) tNil) σ H1 fun y H4 => ∃ acc, H4 D = some (.lst acc) ∧ acc.length < sizeLine ∧ (Same H0 (upd H4 D (.lst (acc ++ [y]))) ∧ ∃ acc', (upd H4 D (.lst (acc ++ [y]))) D = some (.lst acc') ∧ Paired (T1 K (upd H4 D (.lst (acc ++ [y])))) acc' (l.take (i + 1))) := by
  refine to_t1 hj h fun w H' s' hw => ⟨acc, s' _ _ eD, ?_, same_set (sm.trans s') hD, acc ++ [w], upd_same, ?_⟩
  · have h1 := pa.length
    rw [List.length_take] at h1
    exact small1000' (by omega)
  · rw [take_snoc hy]
    have st : Stay K H' (upd H' D (.lst (acc ++ [w]))) := stay_set (s' _ _ eD)
    exact Pd.snoc (pd_stay ((Stay.same s').trans st) pa) (hw.stay st)
theorem lc_tuplesL {K : PySem.W.Frag} {σ : L2.St} {H : Hp} {i j : Nat} {vs : List Nat} {a : Addr} {xs : List V} {l : List (List Int)} {Q : VK} (hi : σ[i]? = some (some (.ref a))) (ha : SqL K H a xs) (pr : Paired (SL K I0 H) xs l) (hl : l.length ≤ 1000)
    (hw : ∀ x, wipe ((wipe σ vs).set j (some x)) vs = wipe σ vs) (hj : ∀ x, ((wipe σ vs).set j (some x))[j]? = some (some x))
    (q : ∀ D H', Same H H' → H D = none → (∃ acc, H' D = some (.lst acc) ∧ Paired (T1 K H') acc l) → Q (.ref D) H') : tLc (iList K (tVar i)) (gName j) tYes (tCB (rTO K) (tCons (tVar j) tNil)) vs σ H Q := by
  refine ⟨_, hi, a, rfl, ⟨_, ha⟩, fun D hD => lc_list (K := K) (a := a) (xs := xs) (fun i H' => Same H H' ∧ ∃ acc, H' D = some (.lst acc) ∧ Paired (T1 K H') acc (l.take i)) ⟨grow hD, [], upd_same, .nil⟩ (fun i H' _ z => z.1.seq ha) ?_ ?_⟩
  · rintro i x H' hx ⟨sm, acc, eD, pa⟩
    obtain ⟨y, hy, hxy⟩ := Pd.at_ pr hx
    exact ⟨hw x, to_turn (hj x) hy hl hD sm eD pa (SL.mono I0.mono _ _ _ _ sm hxy)⟩
  · rintro H' ⟨sm, acc, eD, pa⟩
    rw [pr.length, List.take_length] at pa
    exact q D H' sm hD ⟨acc, eD, pa⟩
theorem lc_tuplesT {K : PySem.W.Frag} {σ : L2.St} {H : Hp} {i j : Nat} {vs : List Nat} {a : Addr} {xs : List V} {l : List (List Int)} {Q : VK} (hi : σ[i]? = some (some (.ref a))) (ha : SqT K H a xs) (pr : Paired (SL K I0 H) xs l) (hl : l.length ≤ 1000)
    (hw : ∀ x, wipe ((wipe σ vs).set j (some x)) vs = wipe σ vs) (hj : ∀ x, ((wipe σ vs).set j (some x))[j]? = some (some x))
    (q : ∀ D H', Same H H' → H D = none → (∃ acc, H' D = some (.lst acc) ∧ Paired (T1 K H') acc l) → Q (.ref D) H') : tLc (iTup K (tVar i)) (gName j) tYes (tCB (rTO K) (tCons (tVar j) tNil)) vs σ H Q := by
  refine ⟨_, hi, a, rfl, ⟨_, ha⟩, fun D hD => lc_tup (K := K) (a := a) (xs := xs) (fun i H' => Same H H' ∧ ∃ acc, H' D = some (.lst acc) ∧ Paired (T1 K H') acc (l.take i)) ⟨grow hD, [], upd_same, .nil⟩ (fun i H' _ z => Same.sqT z.1 ha) ?_ ?_⟩
  · rintro i x H' hx ⟨sm, acc, eD, pa⟩
    obtain ⟨y, hy, hxy⟩ := Pd.at_ pr hx
    exact ⟨hw x, to_turn (hj x) hy hl hD sm eD pa (SL.mono I0.mono _ _ _ _ sm hxy)⟩
  · rintro H' ⟨sm, acc, eD, pa⟩
    rw [pr.length, List.take_length] at pa
    exact q D H' sm hD ⟨acc, eD, pa⟩
/-- tuple(D), D a list of tuples -/
theorem fin_t2 {K : PySem.W.Frag} {H' : Hp} {D : Addr} {acc : List V} {l : List (List Int)} {Q : VK} (eD : H' D = some (.lst acc)) (pa : Paired (T1 K H') acc l) (hl : l.length ≤ 1000) (q : ∀ w H2, Same H' H2 → T2 K H2 w l → Q w H2) : rTO K [.ref D] H' Q :=
  ⟨D, acc, rfl, .inl ⟨SqL.of eD, fun p np => q _ _ (grow np) ⟨p, acc, rfl, SqT.of upd_same, pd_stay (Stay.same (grow np)) pa, hl⟩⟩⟩
/-- what a sequence of numbers is to the program -/
theorem SL.vw {K : PySem.W.Frag} {H : Hp} {v : V} {l : List Int} (h : SL K I0 H v l) : Vw K H v (some (l.map V.int)) ∧ Kn K H (some (l.map V.int)) := by
  obtain ⟨a, xs, rfl, hs, p, z⟩ := h
  have e := pd_int p
  subst e
  refine ⟨hs.elim (fun t => .lst t) (fun t => .tup t), fun ys e => ?_⟩
  cases e
  refine ⟨by rw [List.length_map]; exact z, fun x hx => ?_⟩
  obtain ⟨i, _, rfl⟩ := List.mem_map.mp hx
  exact ⟨none, .int i⟩
theorem SL.vw' {α : Type} {K : PySem.W.Frag} {S : Hp → V → α → Prop} {H : Hp} {v : V} {l : List α} (h : SL K S H v l) : ∃ xs, Vw K H v (some xs) ∧ Paired (S H) xs l := by
  obtain ⟨a, xs, rfl, hs, p, z⟩ := h
  exact ⟨xs, hs.elim (fun t => .lst t) (fun t => .tup t), p⟩
def TaskOk (t : List Int) : Prop := ∃ u p, t = [u, p] ∧ 0 ≤ u ∧ u ≤ p ∧ p ≤ 10000
def spChkTasks (K : PySem.W.Frag) : Sp := fun vs H Q _ => ∃ v l, vs = [v] ∧ SL K (SL K I0) H v l ∧ l ≠ [] ∧ l.length ≤ 24 ∧ (∀ t ∈ l, TaskOk t) ∧ ∀ w H', Same H H' → T2 K H' w l → Q w H'
def spChkModels (K : PySem.W.Frag) : Sp := fun vs H Q _ => ∃ v l n, vs = [v, .int n] ∧ SL K (SL K I0) H v l ∧ l ≠ [] ∧ l.length ≤ 8 ∧ (∀ t ∈ l, ascW (t.map V.int) 0 n = true) ∧ ∀ w H', Same H H' → T2 K H' w l → Q w H'
theorem taskOk_is {t : List Int} (h : TaskOk t) : isTask (some (t.map V.int)) = true := by
  obtain ⟨u, p, rfl, h1, h2, h3⟩ := h
  show (inW (.int p) 0 10000 && inW (.int u) 0 p) = true
  rw [inW_of (by omega) h3, inW_of h1 h2]
  rfl
section
variable {P : Program} {w : World} {K : PySem.W.Frag} {mg : Str → Option Value} {base : Heap}
theorem c_checked_tasks (T : Txt K mg) : C8.Cal P w K mg base 5 "checked_tasks" (spChkTasks K) [] := by
  have C_is_sequence : C8.Cal P w K mg base 1 "is_sequence" (spIsS K) [] := c_is_sequence T
  have C_is_task : C8.Cal P w K mg base 4 "is_task" (spTask K) [] := c_is_task T
  refine T.d_checked_tasks.cal sc_checked_tasks (fun vs H Q E h => ?_) (fun f cdv A outer s H vs Q E hr h => ?_)
  · obtain ⟨v, l, rfl, _⟩ := h
    rfl
  obtain ⟨v, l, rfl, hS, h0, h24, hok, q⟩ := h
  obtain ⟨a, xs, rfl, hs, pr, hz⟩ := hS
  have hlen := pr.length
  have h0' : l.length ≠ 0 := fun z => h0 (List.eq_nil_of_length_eq_zero z)
  have turn : ∀ {i : Nat} {x : V} {H' : Hp}, Same H H' → xs[i]? = some x → ∃ o, Vw K H' x o ∧ Kn K H' o ∧ isTask o = true := fun {i x H'} sm hx => by
    obtain ⟨y, hy, hxy⟩ := Pd.at_ pr hx
    obtain ⟨h1, h2⟩ := (SL.mono I0.mono _ _ _ _ sm hxy).vw
    exact ⟨_, h1, h2, taskOk_is (hok _ (List.mem_of_getElem? hy))⟩
  rcases hs with hs | hs
  · refine ⟨_, (pss_cons (ps_if (PW.pt (pw_or (pt_not (pt_val (C8.pe_c C_is_sequence hr (by omega) (by rfl) (pa_cons (pv 0) pa_nil)))) (pw_or1 (pt_cmpR op_eq (pe_callB call_len_seq (by rfl) T.z_len (by decide +kernel) (pa_cons (pv 0) pa_nil)) pe_int (nomark _)))))
    (pss_one ps_never)
    pss_nil)
  (pss_cons (ps_if (pt_cmpR op_gt (pe_callB call_len_seq (by rfl) T.z_len (by decide +kernel) (pa_cons (pv 0) pa_nil)) (C8.pe_gc (by rfl) T.m_MOST_TASKS) (nomark _))
    (pss_one ps_never)
    pss_nil)
  (pss_cons (ps_for PassesOwn.never rfl (pi_enum (by rfl) T.z_enumerate (pa_cons (pv 0) pa_nil)) (pg_tup (by rfl) (pgs_cons (pg_name (i := 1) sc_checked_tasks.nd rfl (.inl rfl)) (pgs_cons (pg_name (i := 2) sc_checked_tasks.nd rfl (.inl rfl)) pgs_nil)))
    (pss_one (ps_if (pt_not (pt_val (C8.pe_c C_is_task hr (by omega) (by rfl) (pa_cons (pv 2) pa_nil))))
    (pss_one ps_never)
    pss_nil)))
  (pss_one (ps_ret (pe_callTy call_tuple_of (by rfl) T.z_tuple (by decide +kernel) (pa_cons (pe_lc (own := [("task", 2)]) (g := gName 2) (te := tCB (rTO K) (tCons (tVar 2) tNil)) (by rfl) sc_checked_tasks.nd (pi_list (pv 0)) (blkOk_by (own := [("task", 2)]) (N := ["tasks", "at", "task"]) (sc := defScope s_checked_tasks) (by decide +kernel)) (fun _ _ _ _ _ => pg_name (i := 2) sc_checked_tasks.nd rfl (Or.inl rfl)) (fun _ _ _ _ _ => pts_nil) (fun _ _ _ _ _ => (pe_callTy call_tuple_of (by rfl) T.z_tuple (by decide +kernel) (pa_cons (pv 2) pa_nil)))) pa_nil))))))), ?_⟩
    refine ⟨_, rfl, _, _, rfl, .lst hs, fun H1 s1 => ⟨_, rfl, iteF ?_⟩⟩
    refine ⟨_, rfl, a, xs, rfl, .inl (s1.seq hs), rfl, _, rfl, ?_⟩
    rw [decide_eq_false (fun z => h0' (by have := V.int.inj z; omega))]
    refine iteF ?_
    refine ⟨_, rfl, a, xs, rfl, .inl (s1.seq hs), _, _, rfl, rfl, _, rfl, ?_⟩
    rw [decide_eq_false (by omega)]
    refine iteF ?_
    refine ⟨_, rfl, a, xs, rfl, s1.seq hs, for_it walk_enum (fun i σ H' => ∃ y z, σ = [some (.ref a), y, z] ∧ Same H H') ⟨none, none, rfl, s1⟩ (fun i σ H' _ ⟨_, _, _, z⟩ => z.seq hs) ?_ ?_⟩
    · rintro i v σ H' H'' hi ⟨y, z, rfl, sm⟩ ⟨T, x1, x2, rfl, nT, rfl, e1, e2⟩
      have e1' := Option.some.inj e1
      subst e1'
      have sT : Same H (upd H' T (.tup [.int (i : Nat), x2])) := sm.trans (grow nT)
      refine ⟨T, _, rfl, SqT.of upd_same, rfl, _, _, rfl, _, _, rfl, rfl, ?_⟩
      obtain ⟨o, ho, hk, ht⟩ := turn sT e2
      refine ⟨_, rfl, x2, o, rfl, ho, hk, fun H3 s3 => ⟨_, rfl, ?_⟩⟩
      rw [ht]
      exact iteF ⟨_, _, rfl, sT.trans s3⟩
    · rintro σ H' ⟨y, z, rfl, sm⟩
      exact lc_tuplesL (K := K) (i := 0) (j := 2) (vs := [2]) (σ := [some (.ref a), y, z]) (Q := fun v H2 => rTO K [v] H2 Q) rfl (sm.seq hs) (L2.Paired.mapP pr fun _ _ z => SL.mono I0.mono _ _ _ _ sm z) hz (fun x => rfl) (fun x => rfl) fun D H2 s2 nD ⟨acc, eD, pa⟩ => fin_t2 eD pa hz fun w H3 s3 hw => q w H3 ((sm.trans s2).trans s3) hw
  · refine ⟨_, (pss_cons (ps_if (PW.pt (pw_or (pt_not (pt_val (C8.pe_c C_is_sequence hr (by omega) (by rfl) (pa_cons (pv 0) pa_nil)))) (pw_or1 (pt_cmpR op_eq (pe_callB call_len_seq (by rfl) T.z_len (by decide +kernel) (pa_cons (pv 0) pa_nil)) pe_int (nomark _)))))
    (pss_one ps_never)
    pss_nil)
  (pss_cons (ps_if (pt_cmpR op_gt (pe_callB call_len_seq (by rfl) T.z_len (by decide +kernel) (pa_cons (pv 0) pa_nil)) (C8.pe_gc (by rfl) T.m_MOST_TASKS) (nomark _))
    (pss_one ps_never)
    pss_nil)
  (pss_cons (ps_for PassesOwn.never rfl (pi_enumT (by rfl) T.z_enumerate (pa_cons (pv 0) pa_nil)) (pg_tup (by rfl) (pgs_cons (pg_name (i := 1) sc_checked_tasks.nd rfl (.inl rfl)) (pgs_cons (pg_name (i := 2) sc_checked_tasks.nd rfl (.inl rfl)) pgs_nil)))
    (pss_one (ps_if (pt_not (pt_val (C8.pe_c C_is_task hr (by omega) (by rfl) (pa_cons (pv 2) pa_nil))))
    (pss_one ps_never)
    pss_nil)))
  (pss_one (ps_ret (pe_callTy call_tuple_of (by rfl) T.z_tuple (by decide +kernel) (pa_cons (pe_lc (own := [("task", 2)]) (g := gName 2) (te := tCB (rTO K) (tCons (tVar 2) tNil)) (by rfl) sc_checked_tasks.nd (pi_tup (pv 0)) (blkOk_by (own := [("task", 2)]) (N := ["tasks", "at", "task"]) (sc := defScope s_checked_tasks) (by decide +kernel)) (fun _ _ _ _ _ => pg_name (i := 2) sc_checked_tasks.nd rfl (Or.inl rfl)) (fun _ _ _ _ _ => pts_nil) (fun _ _ _ _ _ => (pe_callTy call_tuple_of (by rfl) T.z_tuple (by decide +kernel) (pa_cons (pv 2) pa_nil)))) pa_nil))))))), ?_⟩
    refine ⟨_, rfl, _, _, rfl, .tup hs, fun H1 s1 => ⟨_, rfl, iteF ?_⟩⟩
    refine ⟨_, rfl, a, xs, rfl, .inr (Same.sqT s1 hs), rfl, _, rfl, ?_⟩
    rw [decide_eq_false (fun z => h0' (by have := V.int.inj z; omega))]
    refine iteF ?_
    refine ⟨_, rfl, a, xs, rfl, .inr (Same.sqT s1 hs), _, _, rfl, rfl, _, rfl, ?_⟩
    rw [decide_eq_false (by omega)]
    refine iteF ?_
    refine ⟨_, rfl, a, xs, rfl, Same.sqT s1 hs, for_it walk_enumT (fun i σ H' => ∃ y z, σ = [some (.ref a), y, z] ∧ Same H H') ⟨none, none, rfl, s1⟩ (fun i σ H' _ ⟨_, _, _, z⟩ => Same.sqT z hs) ?_ ?_⟩
    · rintro i v σ H' H'' hi ⟨y, z, rfl, sm⟩ ⟨T, x1, x2, rfl, nT, rfl, e1, e2⟩
      have e1' := Option.some.inj e1
      subst e1'
      have sT : Same H (upd H' T (.tup [.int (i : Nat), x2])) := sm.trans (grow nT)
      refine ⟨T, _, rfl, SqT.of upd_same, rfl, _, _, rfl, _, _, rfl, rfl, ?_⟩
      obtain ⟨o, ho, hk, ht⟩ := turn sT e2
      refine ⟨_, rfl, x2, o, rfl, ho, hk, fun H3 s3 => ⟨_, rfl, ?_⟩⟩
      rw [ht]
      exact iteF ⟨_, _, rfl, sT.trans s3⟩
    · rintro σ H' ⟨y, z, rfl, sm⟩
      exact lc_tuplesT (K := K) (i := 0) (j := 2) (vs := [2]) (σ := [some (.ref a), y, z]) (Q := fun v H2 => rTO K [v] H2 Q) rfl (Same.sqT sm hs) (L2.Paired.mapP pr fun _ _ z => SL.mono I0.mono _ _ _ _ sm z) hz (fun x => rfl) (fun x => rfl) fun D H2 s2 nD ⟨acc, eD, pa⟩ => fin_t2 eD pa hz fun w H3 s3 hw => q w H3 ((sm.trans s2).trans s3) hw
theorem c_checked_models (T : Txt K mg) : C8.Cal P w K mg base 5 "checked_models" (spChkModels K) [] := by
  have C_is_sequence : C8.Cal P w K mg base 1 "is_sequence" (spIsS K) [] := c_is_sequence T
  have C_is_ascending : C8.Cal P w K mg base 3 "is_ascending" (spAsc K) [] := c_is_ascending T
  refine T.d_checked_models.cal sc_checked_models (fun vs H Q E h => ?_) (fun f cdv A outer s H vs Q E hr h => ?_)
  · obtain ⟨v, l, n, rfl, _⟩ := h
    rfl
  obtain ⟨v, l, n, rfl, hS, h0, h24, hok, q⟩ := h
  obtain ⟨a, xs, rfl, hs, pr, hz⟩ := hS
  have hlen := pr.length
  have h0' : l.length ≠ 0 := fun z => h0 (List.eq_nil_of_length_eq_zero z)
  have turn : ∀ {i : Nat} {x : V} {H' : Hp}, Same H H' → xs[i]? = some x → ∃ o, Vw K H' x o ∧ Kn K H' o ∧ ascO o n = true := fun {i x H'} sm hx => by
    obtain ⟨y, hy, hxy⟩ := Pd.at_ pr hx
    obtain ⟨h1, h2⟩ := (SL.mono I0.mono _ _ _ _ sm hxy).vw
    exact ⟨_, h1, h2, hok _ (List.mem_of_getElem? hy)⟩
  rcases hs with hs | hs
  · refine ⟨_, (pss_cons (ps_if (PW.pt (pw_or (pt_not (pt_val (C8.pe_c C_is_sequence hr (by omega) (by rfl) (pa_cons (pv 0) pa_nil)))) (pw_or1 (pt_cmpR op_eq (pe_callB call_len_seq (by rfl) T.z_len (by decide +kernel) (pa_cons (pv 0) pa_nil)) pe_int (nomark _)))))
    (pss_one ps_never)
    pss_nil)
  (pss_cons (ps_if (pt_cmpR op_gt (pe_callB call_len_seq (by rfl) T.z_len (by decide +kernel) (pa_cons (pv 0) pa_nil)) (C8.pe_gc (by rfl) T.m_MOST_MODELS) (nomark _))
    (pss_one ps_never)
    pss_nil)
  (pss_cons (ps_for PassesOwn.never rfl (pi_enum (by rfl) T.z_enumerate (pa_cons (pv 0) pa_nil)) (pg_tup (by rfl) (pgs_cons (pg_name (i := 2) sc_checked_models.nd rfl (.inl rfl)) (pgs_cons (pg_name (i := 3) sc_checked_models.nd rfl (.inl rfl)) pgs_nil)))
    (pss_one (ps_if (pt_not (pt_val (C8.pe_c C_is_ascending hr (by omega) (by rfl) (pa_cons (pv 3) (pa_cons (pv 1) pa_nil)))))
    (pss_one ps_never)
    pss_nil)))
  (pss_one (ps_ret (pe_callTy call_tuple_of (by rfl) T.z_tuple (by decide +kernel) (pa_cons (pe_lc (own := [("model", 3)]) (g := gName 3) (te := tCB (rTO K) (tCons (tVar 3) tNil)) (by rfl) sc_checked_models.nd (pi_list (pv 0)) (blkOk_by (own := [("model", 3)]) (N := ["models", "tasks", "at", "model"]) (sc := defScope s_checked_models) (by decide +kernel)) (fun _ _ _ _ _ => pg_name (i := 3) sc_checked_models.nd rfl (Or.inl rfl)) (fun _ _ _ _ _ => pts_nil) (fun _ _ _ _ _ => (pe_callTy call_tuple_of (by rfl) T.z_tuple (by decide +kernel) (pa_cons (pv 3) pa_nil)))) pa_nil))))))), ?_⟩
    refine ⟨_, rfl, _, _, rfl, .lst hs, fun H1 s1 => ⟨_, rfl, iteF ?_⟩⟩
    refine ⟨_, rfl, a, xs, rfl, .inl (s1.seq hs), rfl, _, rfl, ?_⟩
    rw [decide_eq_false (fun z => h0' (by have := V.int.inj z; omega))]
    refine iteF ?_
    refine ⟨_, rfl, a, xs, rfl, .inl (s1.seq hs), _, _, rfl, rfl, _, rfl, ?_⟩
    rw [decide_eq_false (by omega)]
    refine iteF ?_
    refine ⟨_, rfl, a, xs, rfl, s1.seq hs, for_it walk_enum (fun i σ H' => ∃ y z, σ = [some (.ref a), some (.int n), y, z] ∧ Same H H') ⟨none, none, rfl, s1⟩ (fun i σ H' _ ⟨_, _, _, z⟩ => z.seq hs) ?_ ?_⟩
    · rintro i v σ H' H'' hi ⟨y, z, rfl, sm⟩ ⟨T, x1, x2, rfl, nT, rfl, e1, e2⟩
      have e1' := Option.some.inj e1
      subst e1'
      have sT : Same H (upd H' T (.tup [.int (i : Nat), x2])) := sm.trans (grow nT)
      refine ⟨T, _, rfl, SqT.of upd_same, rfl, _, _, rfl, _, _, rfl, rfl, ?_⟩
      obtain ⟨o, ho, hk, ht⟩ := turn sT e2
      refine ⟨_, rfl, _, rfl, x2, o, n, rfl, ho, fun ys e => (hk ys e).2, fun H3 s3 => ⟨_, rfl, ?_⟩⟩
      rw [ht]
      exact iteF ⟨_, _, rfl, sT.trans s3⟩
    · rintro σ H' ⟨y, z, rfl, sm⟩
      exact lc_tuplesL (K := K) (i := 0) (j := 3) (vs := [3]) (σ := [some (.ref a), some (.int n), y, z]) (Q := fun v H2 => rTO K [v] H2 Q) rfl (sm.seq hs) (L2.Paired.mapP pr fun _ _ z => SL.mono I0.mono _ _ _ _ sm z) hz (fun x => rfl) (fun x => rfl) fun D H2 s2 nD ⟨acc, eD, pa⟩ => fin_t2 eD pa hz fun w H3 s3 hw => q w H3 ((sm.trans s2).trans s3) hw
  · refine ⟨_, (pss_cons (ps_if (PW.pt (pw_or (pt_not (pt_val (C8.pe_c C_is_sequence hr (by omega) (by rfl) (pa_cons (pv 0) pa_nil)))) (pw_or1 (pt_cmpR op_eq (pe_callB call_len_seq (by rfl) T.z_len (by decide +kernel) (pa_cons (pv 0) pa_nil)) pe_int (nomark _)))))
    (pss_one ps_never)
    pss_nil)
  (pss_cons (ps_if (pt_cmpR op_gt (pe_callB call_len_seq (by rfl) T.z_len (by decide +kernel) (pa_cons (pv 0) pa_nil)) (C8.pe_gc (by rfl) T.m_MOST_MODELS) (nomark _))
    (pss_one ps_never)
    pss_nil)
  (pss_cons (ps_for PassesOwn.never rfl (pi_enumT (by rfl) T.z_enumerate (pa_cons (pv 0) pa_nil)) (pg_tup (by rfl) (pgs_cons (pg_name (i := 2) sc_checked_models.nd rfl (.inl rfl)) (pgs_cons (pg_name (i := 3) sc_checked_models.nd rfl (.inl rfl)) pgs_nil)))
    (pss_one (ps_if (pt_not (pt_val (C8.pe_c C_is_ascending hr (by omega) (by rfl) (pa_cons (pv 3) (pa_cons (pv 1) pa_nil)))))
    (pss_one ps_never)
    pss_nil)))
  (pss_one (ps_ret (pe_callTy call_tuple_of (by rfl) T.z_tuple (by decide +kernel) (pa_cons (pe_lc (own := [("model", 3)]) (g := gName 3) (te := tCB (rTO K) (tCons (tVar 3) tNil)) (by rfl) sc_checked_models.nd (pi_tup (pv 0)) (blkOk_by (own := [("model", 3)]) (N := ["models", "tasks", "at", "model"]) (sc := defScope s_checked_models) (by decide +kernel)) (fun _ _ _ _ _ => pg_name (i := 3) sc_checked_models.nd rfl (Or.inl rfl)) (fun _ _ _ _ _ => pts_nil) (fun _ _ _ _ _ => (pe_callTy call_tuple_of (by rfl) T.z_tuple (by decide +kernel) (pa_cons (pv 3) pa_nil)))) pa_nil))))))), ?_⟩
    refine ⟨_, rfl, _, _, rfl, .tup hs, fun H1 s1 => ⟨_, rfl, iteF ?_⟩⟩
    refine ⟨_, rfl, a, xs, rfl, .inr (Same.sqT s1 hs), rfl, _, rfl, ?_⟩
    rw [decide_eq_false (fun z => h0' (by have := V.int.inj z; omega))]
    refine iteF ?_
    refine ⟨_, rfl, a, xs, rfl, .inr (Same.sqT s1 hs), _, _, rfl, rfl, _, rfl, ?_⟩
    rw [decide_eq_false (by omega)]
    refine iteF ?_
    refine ⟨_, rfl, a, xs, rfl, Same.sqT s1 hs, for_it walk_enumT (fun i σ H' => ∃ y z, σ = [some (.ref a), some (.int n), y, z] ∧ Same H H') ⟨none, none, rfl, s1⟩ (fun i σ H' _ ⟨_, _, _, z⟩ => Same.sqT z hs) ?_ ?_⟩
    · rintro i v σ H' H'' hi ⟨y, z, rfl, sm⟩ ⟨T, x1, x2, rfl, nT, rfl, e1, e2⟩
      have e1' := Option.some.inj e1
      subst e1'
      have sT : Same H (upd H' T (.tup [.int (i : Nat), x2])) := sm.trans (grow nT)
      refine ⟨T, _, rfl, SqT.of upd_same, rfl, _, _, rfl, _, _, rfl, rfl, ?_⟩
      obtain ⟨o, ho, hk, ht⟩ := turn sT e2
      refine ⟨_, rfl, _, rfl, x2, o, n, rfl, ho, fun ys e => (hk ys e).2, fun H3 s3 => ⟨_, rfl, ?_⟩⟩
      rw [ht]
      exact iteF ⟨_, _, rfl, sT.trans s3⟩
    · rintro σ H' ⟨y, z, rfl, sm⟩
      exact lc_tuplesT (K := K) (i := 0) (j := 3) (vs := [3]) (σ := [some (.ref a), some (.int n), y, z]) (Q := fun v H2 => rTO K [v] H2 Q) rfl (Same.sqT sm hs) (L2.Paired.mapP pr fun _ _ z => SL.mono I0.mono _ _ _ _ sm z) hz (fun x => rfl) (fun x => rfl) fun D H2 s2 nD ⟨acc, eD, pa⟩ => fin_t2 eD pa hz fun w H3 s3 hw => q w H3 ((sm.trans s2).trans s3) hw
end
end Aq
namespace Aq
open PySem PySem.Spec PyProof.Rows L2
/-! ### tuples of numbers as data -/
def ipd (l : List Int) : PyData := .tuple (l.map PyData.int)
theorem dpa_ints {K : PySem.W.Frag} {H : Hp} : ∀ l : List Int, DpAll K H (l.map V.int) (l.map PyData.int)
  | [] => .nil
  | x :: r => .cons (.int x) (dpa_ints r)
theorem T1.dp {K : PySem.W.Frag} {H : Hp} {v : V} {l : List Int} (h : T1 K H v l) : Dp K H v (ipd l) := by
  obtain ⟨a, rfl, t, _⟩ := h
  exact .tup t (dpa_ints l)
theorem pd_dpa {K : PySem.W.Frag} {H : Hp} : ∀ {xs : List V} {ls : List (List Int)}, Paired (T1 K H) xs ls → DpAll K H xs (ls.map ipd)
  | _, _, .nil => .nil
  | _, _, .cons a t => .cons a.dp (pd_dpa t)
theorem eqv_ints : ∀ a b : List Int, PyData.eqvAll (a.map PyData.int) (b.map PyData.int) = decide (a = b)
  | [], [] => rfl
  | [], _ :: _ => rfl
  | _ :: _, [] => rfl
  | x :: a, y :: b => by
    show (PyData.eqv (.int x) (.int y) && PyData.eqvAll (a.map PyData.int) (b.map PyData.int)) = _
    rw [eqv_ints a b]
    show ((x == y) && decide (a = b)) = _
    by_cases h1 : x = y
    · by_cases h2 : a = b
      · subst h1 h2; simp
      · simp [h1, h2]
    · simp [h1]
theorem eqv_ipd (a b : List Int) : PyData.eqv (ipd a) (ipd b) = decide (a = b) := eqv_ints a b
theorem any_ipd (ls : List (List Int)) (p : List Int) : ((ls.map ipd).any fun z => PyData.eqv z (ipd p)) = decide (p ∈ ls) := by
  induction ls with
  | nil => rfl
  | cons a r ih =>
    show (PyData.eqv (ipd a) (ipd p) || (r.map ipd).any fun z => PyData.eqv z (ipd p)) = _
    rw [ih, eqv_ipd]
    by_cases h1 : a = p
    · simp [h1]
    · have h2 : ¬ p = a := fun z => h1 z.symm
      simp [h1, h2]
theorem cl_ints : ∀ l : List Int, PyData.canLayAll0 (l.map PyData.int) = true
  | [] => rfl
  | x :: r => by
    show (PyData.canLay0 (.int x) && PyData.canLayAll0 (r.map PyData.int)) = true
    rw [cl_ints r]
    rfl
theorem dp_ints : ∀ l : List Int, PyData.depthAll (l.map PyData.int) = 0
  | [] => rfl
  | x :: r => by
    show max (PyData.depth (.int x)) (PyData.depthAll (r.map PyData.int)) = 0
    rw [dp_ints r]
    rfl
theorem sh_ipd (l : List Int) : SeqAt.shaped (ipd l) = true := by
  unfold SeqAt.shaped
  rw [show PyData.canLay0 (ipd l) = true from cl_ints l, show PyData.depth (ipd l) = 1 from congrArg (· + 1) (dp_ints l)]
  rfl
theorem cl_ipds : ∀ ls : List (List Int), PyData.canLayAll0 (ls.map ipd) = true
  | [] => rfl
  | x :: r => by
    show (PyData.canLay0 (ipd x) && PyData.canLayAll0 (r.map ipd)) = true
    rw [cl_ipds r, show PyData.canLay0 (ipd x) = true from cl_ints x]
    rfl
theorem dp_ipds : ∀ ls : List (List Int), PyData.depthAll (ls.map ipd) ≤ 1
  | [] => Nat.zero_le _
  | x :: r => by
    show max (PyData.depth (ipd x)) (PyData.depthAll (r.map ipd)) ≤ 1
    rw [show PyData.depth (ipd x) = 1 from congrArg (· + 1) (dp_ints x)]
    have := dp_ipds r
    omega
theorem sh_ipds (ls : List (List Int)) : SeqAt.shaped (.list (ls.map ipd)) = true := by
  unfold SeqAt.shaped
  rw [show PyData.canLay0 (.list (ls.map ipd)) = true from cl_ipds ls, show PyData.depth (.list (ls.map ipd)) = PyData.depthAll (ls.map ipd) + 1 from rfl]
  have := dp_ipds ls
  rw [decide_eq_true (by omega)]
  rfl
/-- p in seen, of tuples of numbers -/
theorem rd_inD {K : PySem.W.Frag} {H : Hp} {v : V} {s : Addr} {acc : List V} {p : List Int} {ls : List (List Int)} {Q : VK} (h : T1 K H v p) (hs : SqL K H s acc) (pa : Paired (T1 K H) acc ls) (q : Q (.bl (decide (p ∈ ls))) H) : rInD K v (.ref s) H Q := by
  rw [← any_ipd] at q
  exact ⟨ipd p, ls.map ipd, h.dp, .lst hs (pd_dpa pa), sh_ipd p, sh_ipds ls, q⟩
/-! ### a state -/
def ArcOk (n m : Int) (t : List Int) : Prop := ∃ a b, t = [a, b] ∧ 0 ≤ a ∧ a < n ∧ 0 ≤ b ∧ b < m
theorem arcOk_is {n m : Int} {t : List Int} (h : ArcOk n m t) : isArc (some (t.map V.int)) n m = true := by
  obtain ⟨a, b, rfl, h1, h2, h3, h4⟩ := h
  show (inW (.int a) 0 (n - 1) && inW (.int b) 0 (m - 1)) = true
  rw [inW_of h1 (by omega), inW_of h3 (by omega)]
  rfl
def StateOk (n m : Int) (l : List (List Int)) : Prop := 1 ≤ l.length ∧ l.length ≤ 40 ∧ (∀ t ∈ l, ArcOk n m t) ∧ l.Nodup
def spState (K : PySem.W.Frag) : Sp := fun vs H Q _ => ∃ v l n m, vs = [v, .int n, .int m] ∧ SL K (SL K I0) H v l ∧ StateOk n m l ∧ ∀ H', Same H H' → Q (.bl true) H'
section
variable {P : Program} {w : World} {K : PySem.W.Frag} {mg : Str → Option Value} {base : Heap}
theorem c_is_state (T : Txt K mg) : C8.Cal P w K mg base 5 "is_state" (spState K) [] := by
  have C_is_arc : C8.Cal P w K mg base 4 "is_arc" (spArc K) [] := c_is_arc T
  have C_has_length : C8.Cal P w K mg base 2 "has_length" (spLen K) [] := c_has_length T
  refine T.d_is_state.cal sc_is_state (fun vs H Q E h => ?_) (fun f cdv A outer s H vs Q E hr h => ?_)
  · obtain ⟨v, l, n, m, rfl, _⟩ := h
    rfl
  obtain ⟨v, l, n, m, rfl, hS, ⟨l1, l2, hok, hnd⟩, q⟩ := h
  obtain ⟨a, xs, rfl, hs, pr, hz⟩ := hS
  have hlen := pr.length
  have hlw : lenW (some xs) 1 40 = true := by
    show (decide ((1 : Int) ≤ (xs.length : Int)) && decide ((xs.length : Int) ≤ 40)) = true
    rw [decide_eq_true (by omega), decide_eq_true (by omega)]
    rfl
  -- one turn, whatever is walked
  have turn : ∀ {i : Nat} {x : V} {H' : Hp} {o : Addr} {acc : List V} {y : Option V}, Same H H' → H o = none → H' o = some (.lst acc) → Paired (T1 K H') acc (l.take i) → xs[i]? = some x →
      ∃ t, l[i]? = some t ∧ t ∉ l.take i ∧ ArcOk n m t ∧ SL K I0 H' x t := fun {i x H' o acc y} sm no eo pa hx => by
    obtain ⟨t, ht, hxt⟩ := Pd.at_ pr hx
    refine ⟨t, ht, fun z => ?_, hok _ (List.mem_of_getElem? ht), SL.mono I0.mono _ _ _ _ sm hxt⟩
    obtain ⟨j, hj, e⟩ := List.mem_take_iff_getElem.mp z
    obtain ⟨h1, h2⟩ := List.getElem?_eq_some_iff.mp ht
    have hj' : j < i := by omega
    exact absurd ((List.getElem_inj hnd).mp (e.trans h2.symm)) (Nat.ne_of_lt hj')
  rcases hs with hs | hs
  · refine ⟨_, (pss_cons (ps_if (pt_not (pt_val (C8.pe_c C_has_length hr (by omega) (by rfl) (pa_cons (pv 0) (pa_cons pe_int (pa_cons (C8.pe_gc (by rfl) T.m_MOST_ARCS) pa_nil))))))
    (pss_one (ps_ret pe_bl))
    pss_nil)
  (pss_cons (ps_set (i := 3) sc_is_state.nd rfl (.inl rfl) (pe_lst pa_nil))
  (pss_cons (ps_for PassesOwn.never rfl (pi_list (pv 0)) (pg_name (i := 4) sc_is_state.nd rfl (.inl rfl))
    (pss_cons (ps_if (PW.pt (pw_or (pt_not (pt_val (C8.pe_c C_is_arc hr (by omega) (by rfl) (pa_cons (pv 4) (pa_cons (pv 1) (pa_cons (pv 2) pa_nil)))))) (pw_or1 (pt_cmpR (op_inD (hu65 hr)) (pe_callTy call_tuple_of (by rfl) T.z_tuple (by decide +kernel) (pa_cons (pv 4) pa_nil)) (pv 3) (by rfl)))))
    (pss_one (ps_ret pe_bl))
    pss_nil)
  (pss_one (ps_expr (pe_bm PySem.F.plainAttrs_list PySem.F.slot_list_append PySem.F.type_list_append mt_append (pv 3) (pa_cons (pe_callTy call_tuple_of (by rfl) T.z_tuple (by decide +kernel) (pa_cons (pv 4) pa_nil)) pa_nil))))))
  (pss_one (ps_ret pe_bl))))), ?_⟩
    refine ⟨_, rfl, _, _, 1, 40, rfl, .lst hs, fun H1 s1 => ⟨_, rfl, ?_⟩⟩
    rw [hlw]
    refine iteF ⟨Nat.zero_le _, fun o no => ?_⟩
    have no' : H o = none := s1.free no
    refine ⟨_, rfl, a, rfl, ⟨_, (s1.trans (grow no)).seq hs⟩, for_list (K := K) (a := a) (xs := xs) (fun i σ H' => ∃ y acc, σ = [some (.ref a), some (.int n), some (.int m), some (.ref o), y] ∧ Same H H' ∧ H' o = some (.lst acc) ∧ Paired (T1 K H') acc (l.take i)) ⟨none, [], rfl, s1.trans (grow no), upd_same, .nil⟩ (fun i σ H' _ ⟨_, _, _, z, _⟩ => z.seq hs) ?_ ?_⟩
    · rintro i x σ H' hx ⟨y, acc, rfl, sm, eo, pa⟩
      obtain ⟨t, ht, hnt, hat, hxt⟩ := turn (y := y) sm no' eo pa hx
      obtain ⟨hv, hk⟩ := hxt.vw
      refine ⟨_, rfl, _, rfl, _, rfl, x, _, n, m, rfl, hv, hk, fun H2 s2 => ⟨_, rfl, ?_⟩⟩
      rw [arcOk_is hat]
      refine iteF ?_
      unfold tTest tOp
      refine to_t1 (K := K) (σ := [some (.ref a), some (.int n), some (.int m), some (.ref o), some x]) (j := 4) rfl (SL.mono I0.mono _ _ _ _ s2 hxt) fun w H3 s3 hw => ?_
      have s23 := s2.trans s3
      refine ⟨_, rfl, rd_inD hw (SqL.of (s23 _ _ eo)) (pd_stay (Stay.same s23) pa) ⟨_, rfl, ?_⟩⟩
      rw [decide_eq_false hnt]
      refine iteF ?_
      refine ⟨_, rfl, .inl ⟨rfl, _, SqL.of (s23 _ _ eo)⟩, to_t1 (K := K) (σ := [some (.ref a), some (.int n), some (.int m), some (.ref o), some x]) (j := 4) rfl (SL.mono I0.mono _ _ _ _ s23 hxt) fun w' H4 s4 hw' => ?_⟩
      have s234 := s23.trans s4
      have eo4 := s234 _ _ eo
      have pl := pa.length
      rw [List.length_take] at pl
      refine ⟨o, acc, w', rfl, rfl, eo4, small1000' (by omega), _, acc ++ [w'], rfl, same_set (sm.trans s234) no', upd_same, ?_⟩
      rw [take_snoc ht]
      have st : Stay K H4 (upd H4 o (.lst (acc ++ [w']))) := stay_set eo4
      exact Pd.snoc (pd_stay ((Stay.same s234).trans st) pa) (hw'.stay st)
    · rintro σ H' ⟨y, acc, rfl, sm, eo, pa⟩
      exact q _ sm
  · refine ⟨_, (pss_cons (ps_if (pt_not (pt_val (C8.pe_c C_has_length hr (by omega) (by rfl) (pa_cons (pv 0) (pa_cons pe_int (pa_cons (C8.pe_gc (by rfl) T.m_MOST_ARCS) pa_nil))))))
    (pss_one (ps_ret pe_bl))
    pss_nil)
  (pss_cons (ps_set (i := 3) sc_is_state.nd rfl (.inl rfl) (pe_lst pa_nil))
  (pss_cons (ps_for PassesOwn.never rfl (pi_tup (pv 0)) (pg_name (i := 4) sc_is_state.nd rfl (.inl rfl))
    (pss_cons (ps_if (PW.pt (pw_or (pt_not (pt_val (C8.pe_c C_is_arc hr (by omega) (by rfl) (pa_cons (pv 4) (pa_cons (pv 1) (pa_cons (pv 2) pa_nil)))))) (pw_or1 (pt_cmpR (op_inD (hu65 hr)) (pe_callTy call_tuple_of (by rfl) T.z_tuple (by decide +kernel) (pa_cons (pv 4) pa_nil)) (pv 3) (by rfl)))))
    (pss_one (ps_ret pe_bl))
    pss_nil)
  (pss_one (ps_expr (pe_bm PySem.F.plainAttrs_list PySem.F.slot_list_append PySem.F.type_list_append mt_append (pv 3) (pa_cons (pe_callTy call_tuple_of (by rfl) T.z_tuple (by decide +kernel) (pa_cons (pv 4) pa_nil)) pa_nil))))))
  (pss_one (ps_ret pe_bl))))), ?_⟩
    refine ⟨_, rfl, _, _, 1, 40, rfl, .tup hs, fun H1 s1 => ⟨_, rfl, ?_⟩⟩
    rw [hlw]
    refine iteF ⟨Nat.zero_le _, fun o no => ?_⟩
    have no' : H o = none := s1.free no
    refine ⟨_, rfl, a, rfl, ⟨_, Same.sqT (s1.trans (grow no)) hs⟩, for_tup (K := K) (a := a) (xs := xs) (fun i σ H' => ∃ y acc, σ = [some (.ref a), some (.int n), some (.int m), some (.ref o), y] ∧ Same H H' ∧ H' o = some (.lst acc) ∧ Paired (T1 K H') acc (l.take i)) ⟨none, [], rfl, s1.trans (grow no), upd_same, .nil⟩ (fun i σ H' _ ⟨_, _, _, z, _⟩ => Same.sqT z hs) ?_ ?_⟩
    · rintro i x σ H' hx ⟨y, acc, rfl, sm, eo, pa⟩
      obtain ⟨t, ht, hnt, hat, hxt⟩ := turn (y := y) sm no' eo pa hx
      obtain ⟨hv, hk⟩ := hxt.vw
      refine ⟨_, rfl, _, rfl, _, rfl, x, _, n, m, rfl, hv, hk, fun H2 s2 => ⟨_, rfl, ?_⟩⟩
      rw [arcOk_is hat]
      refine iteF ?_
      unfold tTest tOp
      refine to_t1 (K := K) (σ := [some (.ref a), some (.int n), some (.int m), some (.ref o), some x]) (j := 4) rfl (SL.mono I0.mono _ _ _ _ s2 hxt) fun w H3 s3 hw => ?_
      have s23 := s2.trans s3
      refine ⟨_, rfl, rd_inD hw (SqL.of (s23 _ _ eo)) (pd_stay (Stay.same s23) pa) ⟨_, rfl, ?_⟩⟩
      rw [decide_eq_false hnt]
      refine iteF ?_
      refine ⟨_, rfl, .inl ⟨rfl, _, SqL.of (s23 _ _ eo)⟩, to_t1 (K := K) (σ := [some (.ref a), some (.int n), some (.int m), some (.ref o), some x]) (j := 4) rfl (SL.mono I0.mono _ _ _ _ s23 hxt) fun w' H4 s4 hw' => ?_⟩
      have s234 := s23.trans s4
      have eo4 := s234 _ _ eo
      have pl := pa.length
      rw [List.length_take] at pl
      refine ⟨o, acc, w', rfl, rfl, eo4, small1000' (by omega), _, acc ++ [w'], rfl, same_set (sm.trans s234) no', upd_same, ?_⟩
      rw [take_snoc ht]
      have st : Stay K H4 (upd H4 o (.lst (acc ++ [w']))) := stay_set eo4
      exact Pd.snoc (pd_stay ((Stay.same s234).trans st) pa) (hw'.stay st)
    · rintro σ H' ⟨y, acc, rfl, sm, eo, pa⟩
      exact q _ sm
end
end Aq
namespace Aq
open PySem PySem.Spec PyProof.Rows L2
theorem lc_tuplesS {K : PySem.W.Frag} {σ : L2.St} {H : Hp} {i j : Nat} {vs : List Nat} {v : V} {l : List (List Int)} {Q : VK} (hi : σ[i]? = some (some v)) (ha : SL K (SL K I0) H v l)
    (hw : ∀ x, wipe ((wipe σ vs).set j (some x)) vs = wipe σ vs) (hj : ∀ x, ((wipe σ vs).set j (some x))[j]? = some (some x))
    (q : ∀ D H', Same H H' → H D = none → (∃ acc, H' D = some (.lst acc) ∧ Paired (T1 K H') acc l) → Q (.ref D) H') : tLc (iSeq K (tVar i)) (gName j) tYes (tCB (rTO K) (tCons (tVar j) tNil)) vs σ H Q := by
  obtain ⟨a, xs, rfl, hs, pr, hl⟩ := ha
  refine lc_seq (a := a) (xs := xs) (fun Q q => ⟨_, hi, q⟩) hs (Same.refl _) (fun D i H' => H D = none ∧ Same H H' ∧ ∃ acc, H' D = some (.lst acc) ∧ Paired (T1 K H') acc (l.take i)) (fun D hD => ⟨hD, grow hD, [], upd_same, .nil⟩) (fun D i H' z => z.2.1) ?_ ?_
  · rintro D i x H' hx ⟨hD, sm, acc, eD, pa⟩
    obtain ⟨y, hy, hxy⟩ := Pd.at_ pr hx
    refine ⟨hw x, ?_⟩
    refine to_t1 (hj x) (SL.mono I0.mono _ _ _ _ sm hxy) fun w H4 s4 hw4 => ⟨acc, s4 _ _ eD, ?_, hD, same_set (sm.trans s4) hD, acc ++ [w], upd_same, ?_⟩
    · have h1 := pa.length
      rw [List.length_take] at h1
      exact small1000' (by omega)
    · rw [take_snoc hy]
      have st : Stay K H4 (upd H4 D (.lst (acc ++ [w]))) := stay_set (s4 _ _ eD)
      exact Pd.snoc (pd_stay ((Stay.same s4).trans st) pa) (hw4.stay st)
  · rintro D H' ⟨hD, sm, acc, eD, pa⟩
    rw [pr.length, List.take_length] at pa
    exact q D H' sm hD ⟨acc, eD, pa⟩
/-- tuple([tuple(x) for x in xs]) -/
theorem to_t2 {K : PySem.W.Frag} {σ : L2.St} {H : Hp} {i j : Nat} {vs : List Nat} {v : V} {l : List (List Int)} {Q : VK} (hi : σ[i]? = some (some v)) (ha : SL K (SL K I0) H v l)
    (hw : ∀ x, wipe ((wipe σ vs).set j (some x)) vs = wipe σ vs) (hj : ∀ x, ((wipe σ vs).set j (some x))[j]? = some (some x))
    (q : ∀ w H', Same H H' → T2 K H' w l → Q w H') : tCB (rTO K) (tCons (tLc (iSeq K (tVar i)) (gName j) tYes (tCB (rTO K) (tCons (tVar j) tNil)) vs) tNil) σ H Q := by
  have hz : l.length ≤ 1000 := by
    obtain ⟨_, _, _, _, _, z⟩ := ha
    exact z
  exact lc_tuplesS (Q := fun v H2 => rTO K [v] H2 Q) hi ha hw hj fun D H2 s2 nD ⟨acc, eD, pa⟩ => fin_t2 eD pa hz fun w H3 s3 hw => q w H3 (s2.trans s3) hw
def spChkStates (K : PySem.W.Frag) : Sp := fun vs H Q _ => ∃ v l n, vs = [v, .int n] ∧ SL K (SL K (SL K I0)) H v l ∧ l ≠ [] ∧ l.length ≤ 60 ∧ (∀ t ∈ l, StateOk n l.length t) ∧ ∀ w H', Same H H' → T3 K H' w l → Q w H'
section
variable {P : Program} {w : World} {K : PySem.W.Frag} {mg : Str → Option Value} {base : Heap}
theorem c_checked_states (T : Txt K mg) : C8.Cal P w K mg base 6 "checked_states" (spChkStates K) [] := by
  have C_is_sequence : C8.Cal P w K mg base 1 "is_sequence" (spIsS K) [] := c_is_sequence T
  have C_is_state : C8.Cal P w K mg base 5 "is_state" (spState K) [] := c_is_state T
  refine T.d_checked_states.cal sc_checked_states (fun vs H Q E h => ?_) (fun f cdv A outer s H vs Q E hr h => ?_)
  · obtain ⟨v, l, n, rfl, _⟩ := h
    rfl
  obtain ⟨v, l, n, rfl, hS, h0, h24, hok, q⟩ := h
  have mS : Mono (SL K (SL K I0)) := SL.mono (SL.mono I0.mono)
  obtain ⟨a, xs, rfl, hs, pr, hz⟩ := hS
  have hlen := pr.length
  have h0' : l.length ≠ 0 := fun z => h0 (List.eq_nil_of_length_eq_zero z)
  refine ⟨_, (pss_cons (ps_if (PW.pt (pw_or (pt_not (pt_val (C8.pe_c C_is_sequence hr (by omega) (by rfl) (pa_cons (pv 0) pa_nil)))) (pw_or1 (pt_cmpR op_eq (pe_callB call_len_seq (by rfl) T.z_len (by decide +kernel) (pa_cons (pv 0) pa_nil)) pe_int (nomark _)))))
    (pss_one ps_never)
    pss_nil)
  (pss_cons (ps_if (pt_cmpR op_gt (pe_callB call_len_seq (by rfl) T.z_len (by decide +kernel) (pa_cons (pv 0) pa_nil)) (C8.pe_gc (by rfl) T.m_MOST_STATES) (nomark _))
    (pss_one ps_never)
    pss_nil)
  (pss_cons (ps_for PassesOwn.never rfl (pi_enumS (by rfl) T.z_enumerate (pa_cons (pv 0) pa_nil)) (pg_tup (by rfl) (pgs_cons (pg_name (i := 2) sc_checked_states.nd rfl (.inl rfl)) (pgs_cons (pg_name (i := 3) sc_checked_states.nd rfl (.inl rfl)) pgs_nil)))
    (pss_one (ps_if (pt_not (pt_val (C8.pe_c C_is_state hr (by omega) (by rfl) (pa_cons (pv 3) (pa_cons (pv 1) (pa_cons (pe_callB call_len_seq (by rfl) T.z_len (by decide +kernel) (pa_cons (pv 0) pa_nil)) pa_nil))))))
    (pss_one ps_never)
    pss_nil)))
  (pss_one (ps_ret (pe_callTy call_tuple_of (by rfl) T.z_tuple (by decide +kernel) (pa_cons (pe_lc (own := [("state", 3)]) (g := gName 3) (te := tCB (rTO K) (tCons (tLc (iSeq K (tVar 3)) (gName 4) tYes (tCB (rTO K) (tCons (tVar 4) tNil)) [4]) tNil)) (by rfl) sc_checked_states.nd (pi_seq (pv 0)) (blkOk_by (own := [("state", 3)]) (N := ["states", "models", "at", "state", "arc"]) (sc := defScope s_checked_states) (by decide +kernel)) (fun _ _ _ _ _ => pg_name (i := 3) sc_checked_states.nd rfl (Or.inl rfl)) (fun _ _ _ _ _ => pts_nil) (fun _ _ _ _ _ => (pe_callTy call_tuple_of (by rfl) T.z_tuple (by decide +kernel) (pa_cons (pe_lc (own := [("arc", 4)]) (g := gName 4) (te := tCB (rTO K) (tCons (tVar 4) tNil)) (by rfl) sc_checked_states.nd (pi_seq (pv 3)) (blkOk_by (own := [("arc", 4)]) (by rfl)) (fun _ _ _ _ _ => pg_name (i := 4) sc_checked_states.nd rfl (Or.inl rfl)) (fun _ _ _ _ _ => pts_nil) (fun _ _ _ _ _ => (pe_callTy call_tuple_of (by rfl) T.z_tuple (by decide +kernel) (pa_cons (pv 4) pa_nil)))) pa_nil)))) pa_nil))))))), ?_⟩
  refine ⟨_, rfl, _, some xs, rfl, hs.elim (fun z => .lst z) (fun z => .tup z), fun H1 s1 => ⟨_, rfl, iteF ?_⟩⟩
  refine ⟨_, rfl, a, xs, rfl, SqA.same s1 hs, rfl, _, rfl, ?_⟩
  rw [decide_eq_false (fun z => h0' (by have := V.int.inj z; omega))]
  refine iteF ?_
  refine ⟨_, rfl, a, xs, rfl, SqA.same s1 hs, _, _, rfl, rfl, _, rfl, ?_⟩
  rw [decide_eq_false (by omega)]
  refine iteF ?_
  show tFor (iEnumS K (tCons (tVar 0) tNil)) _ _ _ _ _
  refine for_enum (a := a) (xs := xs) (fun Q q => ⟨_, rfl, q⟩) (SqA.same s1 hs) (Same.refl _) (fun i σ H' => ∃ y z, σ = [some (.ref a), some (.int n), y, z, none] ∧ Same H1 H') ⟨none, none, rfl, Same.refl _⟩ (fun i σ H' ⟨_, _, _, z⟩ => z) ?_ ?_
  · rintro i x σ H' X hx ⟨y, z, rfl, sm⟩ nT
    have sT : Same H (upd H' X (.tup [.int (i : Nat), x])) := (s1.trans sm).trans (grow nT)
    obtain ⟨t, ht, hxt⟩ := Pd.at_ pr hx
    refine ⟨X, _, rfl, SqT.of upd_same, rfl, _, _, rfl, _, _, rfl, rfl, ?_⟩
    refine ⟨_, rfl, _, rfl, _, rfl, a, xs, rfl, SqA.same sT hs, x, t, n, l.length, (by rw [hlen]; rfl), mS _ _ _ _ sT hxt, hok _ (List.mem_of_getElem? ht), fun H3 s3 => ⟨_, rfl, iteF ⟨_, _, rfl, (sm.trans (grow nT)).trans s3⟩⟩⟩
  · rintro σ H' ⟨y, z, rfl, sm⟩
    have sm := s1.trans sm
    refine lc_seq (K := K) (tl := tVar 0) (g := gName 3) (tt := tYes) (te := tCB (rTO K) (tCons (tLc (iSeq K (tVar 3)) (gName 4) tYes (tCB (rTO K) (tCons (tVar 4) tNil)) [4]) tNil)) (vs := [3]) (σ := [some (.ref a), some (.int n), y, z, none]) (Q := fun v H2 => rTO K [v] H2 Q) (a := a) (xs := xs) (fun Q q => ⟨_, rfl, q⟩) (SqA.same sm hs) (Same.refl _) (fun D i H2 => H' D = none ∧ Same H' H2 ∧ ∃ acc, H2 D = some (.lst acc) ∧ Paired (T2 K H2) acc (l.take i)) (fun D hD => ⟨hD, grow hD, [], upd_same, .nil⟩) (fun D i H2 z => z.2.1) ?_ ?_
    · rintro D i x H2 hx ⟨hD, s2, acc, eD, pa⟩
      obtain ⟨t, ht, hxt⟩ := Pd.at_ pr hx
      refine ⟨rfl, ?_⟩
      show tCB (rTO K) (tCons (tLc (iSeq K (tVar 3)) (gName 4) tYes (tCB (rTO K) (tCons (tVar 4) tNil)) [4]) tNil) _ H2 _
      refine to_t2 (v := x) (l := t) rfl (mS _ _ _ _ (sm.trans s2) hxt) (fun x => rfl) (fun x => rfl) fun w H4 s4 hw => ⟨acc, s4 _ _ eD, ?_, hD, same_set (s2.trans s4) hD, acc ++ [w], upd_same, ?_⟩
      · have h1 := pa.length
        rw [List.length_take] at h1
        exact small1000' (by omega)
      · rw [take_snoc ht]
        have st : Stay K H4 (upd H4 D (.lst (acc ++ [w]))) := stay_set (s4 _ _ eD)
        exact Pd.snoc (pd_stay2 ((Stay.same s4).trans st) pa) (hw.stay st)
    · rintro D H2 ⟨hD, s2, acc, eD, pa⟩
      rw [hlen, List.take_length] at pa
      exact ⟨D, acc, rfl, .inl ⟨SqL.of eD, fun p np => q _ _ ((sm.trans s2).trans (grow np)) ⟨p, acc, rfl, SqT.of upd_same, pd_stay2 (Stay.same (grow np)) pa, hz⟩⟩⟩
end
end Aq
namespace Aq
open PySem PySem.Spec PyProof.Rows L2
/-! ### the order: bit k of the j-th mask stands only if k comes behind j -/
def mv (ms : List Nat) : List V := ms.map fun m : Nat => V.int (m : Int)
theorem mv_len (ms : List Nat) : (mv ms).length = ms.length := List.length_map _
theorem mv_at {ms : List Nat} {i m : Nat} (h : ms[i]? = some m) : (mv ms)[i]? = some (V.int (m : Int)) := by
  unfold mv
  rw [List.getElem?_map, h]
  rfl
theorem mv_set (ms : List Nat) (i m : Nat) : (mv ms).set i (V.int (m : Int)) = mv (ms.set i m) := by
  unfold mv
  rw [List.map_set]
def Rank (rk : Nat → Nat) (ms : List Nat) : Prop := ∀ j m k, ms[j]? = some m → m.testBit k = true → rk j < rk k
theorem shr_nat (m x : Nat) : ((m : Int) / 2 ^ ((x : Int).toNat)) = ((m >>> x : Nat) : Int) := by
  rw [Int.toNat_natCast, Nat.shiftRight_eq_div_pow]
  simp
theorem and_one (a : Nat) : Builtin.bitAnd (a : Int) 1 = ((a &&& 1 : Nat) : Int) := by
  rw [bitAnd_pp (Int.natCast_nonneg a) (by decide)]
  simp
theorem bit_of (m x : Nat) : ((((m >>> x) &&& 1 : Nat) : Int) != 0) = m.testBit x := by
  unfold Nat.testBit
  rw [Nat.and_comm]
  cases h : (1 &&& m >>> x) with
  | zero => rfl
  | succ n => 
    simp
    omega
theorem shl_nat (y : Nat) : ((1 : Int) * 2 ^ ((y : Int).toNat)) = ((2 ^ y : Nat) : Int) := by
  rw [Int.toNat_natCast, Int.one_mul]
  simp
theorem or_nat (a b : Nat) : Builtin.bitOr (a : Int) (b : Int) = ((a ||| b : Nat) : Int) := by
  rw [Bits.bitOr_pp (Int.natCast_nonneg a) (Int.natCast_nonneg b)]
  simp
theorem rank_set {rk : Nat → Nat} {ms : List Nat} {t y m later : Nat} (hR : Rank rk ms) (hl : ∀ k, later.testBit k = true → rk y < rk k ∨ k = y) (hm : ms[t]? = some m) (hlt : rk t < rk y) : Rank rk (ms.set t (m ||| later)) := by
  intro j m' k h1 h2
  rw [List.getElem?_set] at h1
  split at h1
  · rename_i e
    subst e
    split at h1
    · cases h1
      rw [Nat.testBit_or, Bool.or_eq_true] at h2
      rcases h2 with h2 | h2
      · exact hR _ _ _ hm h2
      · rcases hl k h2 with h3 | h3
        · exact Nat.lt_trans hlt h3
        · rw [h3]
          exact hlt
    · cases h1
  · exact hR _ _ _ h1 h2
theorem later_ok {rk : Nat → Nat} {ms : List Nat} {y m : Nat} (hR : Rank rk ms) (hm : ms[y]? = some m) : ∀ k, (m ||| 2 ^ y).testBit k = true → rk y < rk k ∨ k = y := fun k h => by
  rw [Nat.testBit_or, Bool.or_eq_true] at h
  rcases h with h | h
  · exact .inl (hR _ _ _ hm h)
  · rw [Nat.testBit_two_pow] at h
    exact .inr (of_decide_eq_true h).symm
def spPut : Sp := fun vs H Q _ => ∃ (b : Addr) (ms : List Nat) (rk : Nat → Nat) (x y : Nat), vs = [.ref b, .int (x : Int), .int (y : Int)] ∧ H b = some (.lst (mv ms)) ∧ ms.length ≤ 1000 ∧ x < ms.length ∧ y < ms.length ∧ Rank rk ms ∧ rk x < rk y ∧
  ∀ H' ms', But b H H' → H' b = some (.lst (mv ms')) → ms'.length = ms.length → Rank rk ms' → Q .non H'
section
variable {P : Program} {w : World} {K : PySem.W.Frag} {mg : Str → Option Value} {base : Heap}
theorem c_put_behind (T : Txt K mg) : C8.Cal P w K mg base 1 "put_behind" spPut [] := by
  refine T.d_put_behind.cal sc_put_behind (fun vs H Q E h => ?_) (fun f cdv A outer s H vs Q E hr h => ?_)
  · obtain ⟨b, ms, rk, x, y, rfl, _⟩ := h
    rfl
  obtain ⟨b, ms, rk, x, y, rfl, hb, hz, hx, hy, hR, hxy, q⟩ := h
  obtain ⟨my, hmy⟩ : ∃ m, ms[y]? = some m := ⟨_, List.getElem?_eq_getElem hy⟩
  refine ⟨_, (pss_cons (ps_set (i := 3) sc_put_behind.nd rfl (.inl rfl) (pe_op op_or (pe_ix ix_list (pv 0) (pv 2) (fun _ _ => rfl)) (pe_op op_shl pe_int (pv 2))))
  (pss_one (ps_for PassesOwn.never rfl (pi_range1 (by rfl) T.z_range (pa_cons (pe_callB call_len_seq (by rfl) T.z_len (by decide +kernel) (pa_cons (pv 0) pa_nil)) pa_nil)) (pg_name (i := 4) sc_put_behind.nd rfl (.inl rfl))
    (pss_one (ps_if (PW.pt (pw_or (pt_cmpR op_eq (pv 4) (pv 1) (nomark _)) (pw_or1 (pt_truth (pe_op op_and (pe_op op_shr (pe_ix ix_list (pv 0) (pv 4) (fun _ _ => rfl)) (pv 1)) pe_int) (by intro _; rfl)))))
    (pss_one (ps_asg (pe_op op_or (pe_ix ix_list (pv 0) (pv 4) (fun _ _ => rfl)) (pv 3)) (pg_sub (pv 0) (pv 4) set_list)))
    pss_nil))))), ?_⟩
  have eL : Builtin.bitOr (my : Int) (1 * 2 ^ (y : Int).toNat) = ((my ||| 2 ^ y : Nat) : Int) := by rw [shl_nat, or_nat]
  refine ⟨_, rfl, _, rfl, b, _, _, _, rfl, rfl, SqL.of hb, atI_nat (mv_at hmy), _, rfl, _, _, rfl, rfl, ⟨by omega, by omega, by decide⟩, _, _, rfl, rfl, ?_⟩
  refine ⟨_, rfl, b, _, rfl, .inl (SqL.of hb), _, rfl, by omega, by rw [mv_len]; omega, ?_⟩
  refine for_range (lo := 0) (n := (mv ms).length) (fun i σ H' => ∃ z cs, σ = [some (.ref b), some (.int (x : Int)), some (.int (y : Int)), some (.int (Builtin.bitOr (my : Int) (1 * 2 ^ (y : Int).toNat))), z] ∧ But b H H' ∧ H' b = some (.lst (mv cs)) ∧ cs.length = ms.length ∧ Rank rk cs) ⟨none, ms, rfl, But.refl, hb, rfl, hR⟩ ?_ ?_
  · rintro i σ H' hi ⟨z, cs, rfl, bt, eb, hl, hC⟩
    rw [mv_len] at hi
    obtain ⟨mi, hmi⟩ : ∃ m, cs[i]? = some m := ⟨_, List.getElem?_eq_getElem (by omega)⟩
    have e0 : (0 : Int) + (i : Int) = (i : Int) := Int.zero_add _
    rw [e0]
    have step : rk i < rk y → tAsg (tOp (rI0 fun i j => .int (Builtin.bitOr i j)) (tOp (rIxL K) (tVar 0) (tVar 4)) (tVar 3)) (gSub (tVar 0) (tVar 4) rSetL)
        { nx := fun σ H' => ∃ z cs, σ = [some (.ref b), some (.int (x : Int)), some (.int (y : Int)), some (.int (Builtin.bitOr (my : Int) (1 * 2 ^ (y : Int).toNat))), z] ∧ But b H H' ∧ H' b = some (.lst (mv cs)) ∧ cs.length = ms.length ∧ Rank rk cs, rt := Q }
        [some (.ref b), some (.int (x : Int)), some (.int (y : Int)), some (.int (Builtin.bitOr (my : Int) (1 * 2 ^ (y : Int).toNat))), some (.int (i : Int))] H' := fun hlt => by
      refine ⟨_, rfl, _, rfl, b, _, _, _, rfl, rfl, SqL.of eb, atI_nat (mv_at hmi), _, rfl, _, _, rfl, rfl, ?_⟩
      refine ⟨_, rfl, _, rfl, b, _, _, i, rfl, rfl, eb, ?_, _, cs.set i (mi ||| (my ||| 2 ^ y)), rfl, bt.trans But.at_, ?_, by rw [List.length_set]; exact hl, rank_set (y := y) hC (later_ok hR hmy) hmi hlt⟩
      · unfold ixN
        rw [mv_len, if_pos (by omega), if_pos (by omega)]
        rfl
      · rw [upd_same]
        show some (HO.lst ((mv cs).set i (.int (Builtin.bitOr (mi : Int) (Builtin.bitOr (my : Int) (1 * 2 ^ (y : Int).toNat)))))) = _
        rw [eL, or_nat, mv_set]
    refine ⟨_, rfl, _, rfl, rfl, _, rfl, ?_⟩
    by_cases hix : i = x
    · subst hix
      rw [decide_eq_true rfl]
      exact iteT (step hxy)
    · rw [decide_eq_false fun z => hix (by have := V.int.inj z; omega)]
      refine iteF ?_
      have eT : (Builtin.bitAnd ((mi : Int) / 2 ^ (x : Int).toNat) 1 != 0) = mi.testBit x := by rw [shr_nat, and_one, bit_of]
      refine ⟨_, rfl, _, rfl, b, _, _, _, rfl, rfl, SqL.of eb, atI_nat (mv_at hmi), _, rfl, _, _, rfl, rfl, by omega, _, _, rfl, rfl, mi.testBit x, eT.symm, ?_⟩
      cases ht : mi.testBit x with
      | true => exact iteT (step (Nat.lt_trans (hC _ _ _ hmi ht) hxy))
      | false => exact iteF ⟨_, cs, rfl, bt, eb, hl, hC⟩
  · rintro σ H' ⟨z, cs, rfl, bt, eb, hl, hC⟩
    exact q _ _ bt eb hl hC
end
end Aq
namespace Aq
open PySem PySem.Spec PyProof.Rows L2
theorem stay_but {K : PySem.W.Frag} {H H' : Hp} {b : Addr} {xs : List V} (h : But b H H') (hb : H b = some (.lst xs)) : Stay K H H' := fun a zs t => by
  rcases t with (t | ⟨o, t⟩) | t
  · exact .inl (.inl (h _ _ (ne_of t hb (by intro z; cases z)) t))
  · exact .inl (.inr ⟨o, h _ _ (ne_of t hb (by intro z; cases z)) t⟩)
  · exact .inr t
theorem same_but {H H' H'' : Hp} {b : Addr} (s : Same H H') (h : But b H' H'') (nb : H b = none) : Same H H'' := fun c o e => h c o (ne_of_none e nb) (s c o e)
def PairOk (rk : Nat → Nat) (n : Nat) (t : List Int) : Prop := ∃ a b : Nat, t = [(a : Int), (b : Int)] ∧ a < n ∧ b < n ∧ rk a < rk b
def spChkOrder (K : PySem.W.Frag) : Sp := fun vs H Q _ => ∃ v l, ∃ n : Nat, ∃ rk : Nat → Nat, vs = [v, .int (n : Int)] ∧ SL K (SL K I0) H v l ∧ l.length ≤ 200 ∧ n ≤ 24 ∧ (∀ t ∈ l, PairOk rk n t) ∧ l.Nodup ∧ ∀ w H', Same H H' → T2 K H' w l → Q w H'
theorem pairOk_is {rk : Nat → Nat} {n : Nat} {t : List Int} (h : PairOk rk n t) : isPair (some (t.map V.int)) (n : Int) = true := by
  obtain ⟨a, b, rfl, h1, h2, h3⟩ := h
  show (inW (.int (a : Int)) 0 ((n : Int) - 1) && inW (.int (b : Int)) 0 ((n : Int) - 1) && decide ((a : Int) ≠ (b : Int))) = true
  rw [inW_of (by omega) (by omega), inW_of (by omega) (by omega), decide_eq_true]
  · rfl
  · intro e
    have e' : a = b := by omega
    rw [e'] at h3
    exact Nat.lt_irrefl _ h3
theorem rep_mv (n : Nat) : (List.replicate n [V.int 0]).flatten = mv (List.replicate n 0) := by
  induction n with
  | zero => rfl
  | succ n ih =>
    rw [List.replicate_succ, List.replicate_succ, List.flatten_cons, ih]
    rfl
theorem rank0 (rk : Nat → Nat) (n : Nat) : Rank rk (List.replicate n 0) := fun j m k h1 h2 => by
  have e : m = 0 := List.eq_of_mem_replicate (List.mem_of_getElem? h1)
  rw [e] at h2
  simp at h2
section
variable {P : Program} {w : World} {K : PySem.W.Frag} {mg : Str → Option Value} {base : Heap}
theorem c_checked_order (T : Txt K mg) : C8.Cal P w K mg base 5 "checked_order" (spChkOrder K) [] := by
  have C_is_sequence : C8.Cal P w K mg base 1 "is_sequence" (spIsS K) [] := c_is_sequence T
  have C_is_pair : C8.Cal P w K mg base 4 "is_pair" (spPair K) [] := c_is_pair T
  have C_put_behind : C8.Cal P w K mg base 1 "put_behind" spPut [] := c_put_behind T
  refine T.d_checked_order.cal sc_checked_order (fun vs H Q E h => ?_) (fun f cdv A outer s H vs Q E hr h => ?_)
  · obtain ⟨v, l, n, rk, rfl, _⟩ := h
    rfl
  obtain ⟨v, l, n, rk, rfl, hS, h200, hn, hok, hnd, q⟩ := h
  have mS : Mono (SL K I0) := SL.mono I0.mono
  obtain ⟨a, xs, rfl, hs, pr, hz⟩ := hS
  have hlen := pr.length
  refine ⟨_, (pss_cons (ps_if (pt_not (pt_val (C8.pe_c C_is_sequence hr (by omega) (by rfl) (pa_cons (pv 0) pa_nil))))
    (pss_one ps_never)
    pss_nil)
  (pss_cons (ps_if (pt_cmpR op_gt (pe_callB call_len_seq (by rfl) T.z_len (by decide +kernel) (pa_cons (pv 0) pa_nil)) (C8.pe_gc (by rfl) T.m_MOST_PAIRS) (nomark _))
    (pss_one ps_never)
    pss_nil)
  (pss_cons (ps_set (i := 2) sc_checked_order.nd rfl (.inl rfl) (pe_lst pa_nil))
  (pss_cons (ps_set (i := 3) sc_checked_order.nd rfl (.inl rfl) (pe_op op_rep (pe_lst (pa_cons pe_int pa_nil)) (pv 1)))
  (pss_cons (ps_for PassesOwn.never rfl (pi_enumS (by rfl) T.z_enumerate (pa_cons (pv 0) pa_nil)) (pg_tup (by rfl) (pgs_cons (pg_name (i := 4) sc_checked_order.nd rfl (.inl rfl)) (pgs_cons (pg_name (i := 5) sc_checked_order.nd rfl (.inl rfl)) pgs_nil)))
    (pss_cons (ps_if (pt_not (pt_val (C8.pe_c C_is_pair hr (by omega) (by rfl) (pa_cons (pv 5) (pa_cons (pv 1) pa_nil)))))
    (pss_one ps_never)
    pss_nil)
  (pss_cons (ps_asg (pv 5) (pg_seq (by rfl) (pgs_cons (pg_name (i := 6) sc_checked_order.nd rfl (.inl rfl)) (pgs_cons (pg_name (i := 7) sc_checked_order.nd rfl (.inl rfl)) pgs_nil))))
  (pss_cons (ps_if (PW.pt (pw_or (pt_cmpR (op_inD (hu65 hr)) (pe_tup (pa_cons (pv 6) (pa_cons (pv 7) pa_nil))) (pv 2) (by rfl)) (pw_or1 (pt_truth (pe_op op_and (pe_op op_shr (pe_ix ix_list (pv 3) (pv 7) (fun _ _ => rfl)) (pv 6)) pe_int) (by intro _; rfl)))))
    (pss_one ps_never)
    pss_nil)
  (pss_cons (ps_expr (pe_bm PySem.F.plainAttrs_list PySem.F.slot_list_append PySem.F.type_list_append mt_append (pv 2) (pa_cons (pe_tup (pa_cons (pv 6) (pa_cons (pv 7) pa_nil))) pa_nil)))
  (pss_one (ps_expr (C8.pe_c C_put_behind hr (by omega) (by rfl) (pa_cons (pv 3) (pa_cons (pv 6) (pa_cons (pv 7) pa_nil)))))))))))
  (pss_one (ps_ret (pe_callTy call_tuple_of (by rfl) T.z_tuple (by decide +kernel) (pa_cons (pv 2) pa_nil))))))))), ?_⟩
  refine ⟨_, rfl, _, some xs, rfl, hs.elim (fun z => .lst z) (fun z => .tup z), fun H1 s1 => ⟨_, rfl, iteF ?_⟩⟩
  refine ⟨_, rfl, a, xs, rfl, SqA.same s1 hs, _, _, rfl, rfl, _, rfl, ?_⟩
  rw [decide_eq_false (by omega)]
  refine iteF ?_
  -- kept = [], behind = [0] * tasks
  refine ⟨Nat.zero_le _, fun o no => ?_⟩
  refine ⟨by show 1 ≤ sizeLine; decide, fun z nz => ?_⟩
  refine ⟨_, rfl, z, (n : Int), _, rfl, rfl, upd_same, by omega, by omega, ?_, fun b nb => ?_⟩
  · rw [Int.toNat_natCast]
    show 1 * n ≤ _
    have := small1000' (n := 1 * n) (by omega)
    omega
  rw [Int.toNat_natCast, rep_mv]
  have g1 : Same H1 (upd H1 o (.lst [])) := grow no
  have g2 : Same (upd H1 o (.lst [])) (upd (upd H1 o (.lst [])) z (.lst [.int 0])) := grow nz
  have g3 : Same (upd (upd H1 o (.lst [])) z (.lst [.int 0])) (upd (upd (upd H1 o (.lst [])) z (.lst [.int 0])) b (.lst (mv (List.replicate n 0)))) := grow nb
  have s3 : Same H (upd (upd (upd H1 o (.lst [])) z (.lst [.int 0])) b (.lst (mv (List.replicate n 0)))) := s1.trans (g1.trans (g2.trans g3))
  have nbo : o ≠ b := ne_of_none (g2 _ _ upd_same) nb
  have no' : H o = none := s1.free no
  have nb' : H b = none := (s1.trans (g1.trans g2)).free nb
  have e0 : (upd (upd (upd H1 o (.lst [])) z (.lst [.int 0])) b (.lst (mv (List.replicate n 0)))) o = some (.lst []) := by
    rw [upd_ne nbo]
    exact g2 _ _ upd_same
  show tFor (iEnumS K (tCons (tVar 0) tNil)) _ _ _ _ _
  refine for_enum (a := a) (xs := xs) (fun Q q => ⟨_, rfl, q⟩) hs s3 (fun i σ H' => ∃ y1 y2 y3 y4 acc ms, σ = [some (.ref a), some (.int (n : Int)), some (.ref o), some (.ref b), y1, y2, y3, y4] ∧ Same H H' ∧ H' o = some (.lst acc) ∧ Paired (T1 K H') acc (l.take i) ∧ H' b = some (.lst (mv ms)) ∧ ms.length = n ∧ Rank rk ms)
    ⟨none, none, none, none, [], _, rfl, s3, e0, .nil, upd_same, List.length_replicate, rank0 rk n⟩ (fun i σ H' ⟨_, _, _, _, _, _, _, z, _⟩ => z) ?_ ?_
  · rintro i x σ H' X hx ⟨y1, y2, y3, y4, acc, ms, rfl, sm, eo, pa, eb, hl, hR⟩ nT
    obtain ⟨t, ht, hxt⟩ := Pd.at_ pr hx
    have hmem := List.mem_of_getElem? ht
    have hnt : t ∉ l.take i := fun z => by
      obtain ⟨j, hj, e⟩ := List.mem_take_iff_getElem.mp z
      obtain ⟨h1, h2⟩ := List.getElem?_eq_some_iff.mp ht
      exact absurd ((List.getElem_inj hnd).mp (e.trans h2.symm)) (Nat.ne_of_lt (by omega))
    have gT : Same H' (upd H' X (.tup [.int (i : Nat), x])) := grow nT
    obtain ⟨hv, hk⟩ := (mS _ _ _ _ (sm.trans gT) hxt).vw
    refine ⟨X, _, rfl, SqT.of upd_same, rfl, _, _, rfl, _, _, rfl, rfl, ?_⟩
    -- is_pair
    refine ⟨_, rfl, _, rfl, x, _, (n : Int), rfl, hv, hk, fun H3 s3' => ⟨_, rfl, ?_⟩⟩
    rw [pairOk_is (hok t hmem)]
    refine iteF ?_
    obtain ⟨p1, p2, rfl, h1, h2, h12⟩ := hok t hmem
    have sX : Same H H3 := (sm.trans gT).trans s3'
    have s' : Same H' H3 := gT.trans s3'
    obtain ⟨c, ys, rfl, hc, py, hz2⟩ := mS _ _ _ _ sX hxt
    have eys := pd_int py
    subst eys
    -- before, after = pair
    refine ⟨_, rfl, c, _, rfl, hc, rfl, _, _, rfl, _, _, rfl, rfl, ?_⟩
    -- (before, after) in kept
    refine ⟨_, rfl, _, rfl, by show 2 ≤ sizeLine; decide, fun t2 nt2 => ?_⟩
    have g4 : Same H3 (upd H3 t2 (.tup [.int (p1 : Int), .int (p2 : Int)])) := grow nt2
    have s4 := s'.trans g4
    have ht2 : T1 K (upd H3 t2 (.tup [.int (p1 : Int), .int (p2 : Int)])) (.ref t2) [(p1 : Int), (p2 : Int)] := ⟨t2, rfl, SqT.of upd_same, by show 2 ≤ 1000; decide⟩
    refine ⟨_, rfl, rd_inD ht2 (SqL.of (s4 _ _ eo)) (pd_stay (Stay.same s4) pa) ⟨_, rfl, ?_⟩⟩
    rw [decide_eq_false hnt]
    refine iteF ?_
    -- behind[after] >> before & 1
    obtain ⟨my, hmy⟩ : ∃ m, ms[p2]? = some m := ⟨_, List.getElem?_eq_getElem (by omega)⟩
    have eT : (Builtin.bitAnd ((my : Int) / 2 ^ (p1 : Int).toNat) 1 != 0) = my.testBit p1 := by rw [shr_nat, and_one, bit_of]
    have hbit : my.testBit p1 = false := by
      cases hq : my.testBit p1 with
      | false => rfl
      | true => exact absurd (hR _ _ _ hmy hq) (by omega)
    refine ⟨_, rfl, _, rfl, b, _, _, _, rfl, rfl, SqL.of (s4 _ _ eb), atI_nat (mv_at hmy), _, rfl, _, _, rfl, rfl, by omega, _, _, rfl, rfl, my.testBit p1, eT.symm, ?_⟩
    rw [hbit]
    refine iteF ?_
    -- kept.append((before, after))
    refine ⟨_, rfl, .inl ⟨rfl, _, SqL.of (s4 _ _ eo)⟩, _, rfl, _, rfl, by show 2 ≤ sizeLine; decide, fun t3 nt3 => ?_⟩
    have g5 : Same (upd H3 t2 (.tup [.int (p1 : Int), .int (p2 : Int)])) (upd (upd H3 t2 (.tup [.int (p1 : Int), .int (p2 : Int)])) t3 (.tup [.int (p1 : Int), .int (p2 : Int)])) := grow nt3
    have s5 := s4.trans g5
    have pl := pa.length
    rw [List.length_take] at pl
    refine ⟨o, acc, _, rfl, rfl, s5 _ _ eo, small1000' (by omega), ?_⟩
    -- put_behind
    have eb6 : (upd (upd (upd H3 t2 (.tup [.int (p1 : Int), .int (p2 : Int)])) t3 (.tup [.int (p1 : Int), .int (p2 : Int)])) o (.lst (acc ++ [.ref t3]))) b = some (.lst (mv ms)) := by
      rw [upd_ne nbo.symm]
      exact s5 _ _ eb
    refine ⟨_, rfl, _, rfl, _, rfl, b, ms, rk, p1, p2, rfl, eb6, by omega, by omega, by omega, hR, h12, fun H7 ms' bt7 eb7 hl7 hR7 => ?_⟩
    have st6 : Stay K (upd (upd H3 t2 (.tup [.int (p1 : Int), .int (p2 : Int)])) t3 (.tup [.int (p1 : Int), .int (p2 : Int)])) (upd (upd (upd H3 t2 (.tup [.int (p1 : Int), .int (p2 : Int)])) t3 (.tup [.int (p1 : Int), .int (p2 : Int)])) o (.lst (acc ++ [.ref t3]))) := stay_set (s5 _ _ eo)
    have st7 := stay_but (K := K) bt7 eb6
    refine ⟨_, _, _, _, acc ++ [.ref t3], ms', rfl, same_but (same_set (sm.trans s5) no') bt7 nb', bt7 _ _ nbo upd_same, ?_, eb7, hl7.trans hl, hR7⟩
    rw [take_snoc ht]
    have ht3 : T1 K (upd (upd H3 t2 (.tup [.int (p1 : Int), .int (p2 : Int)])) t3 (.tup [.int (p1 : Int), .int (p2 : Int)])) (.ref t3) [(p1 : Int), (p2 : Int)] := ⟨t3, rfl, SqT.of upd_same, by show 2 ≤ 1000; decide⟩
    exact Pd.snoc (pd_stay (((Stay.same s5).trans st6).trans st7) pa) (ht3.stay (st6.trans st7))
  · rintro σ H' ⟨y1, y2, y3, y4, acc, ms, rfl, sm, eo, pa, eb, hl, hR⟩
    rw [hlen, List.take_length] at pa
    exact ⟨_, rfl, fin_t2 eo pa hz fun w H2 s2 hw => q w H2 (sm.trans s2) hw⟩
end
end Aq
namespace Aq
open PySem PySem.Spec PyProof.Rows L2
/-! ### a Line -/
structure LD where
  tasks : List (List Int)
  order : List (List Int)
  models : List (List Int)
  states : List (List (List Int))
  start : Int
  slips : V
structure LOk (d : LD) : Prop where
  t0 : d.tasks ≠ []
  t24 : d.tasks.length ≤ 24
  tok : ∀ t ∈ d.tasks, TaskOk t
  o200 : d.order.length ≤ 200
  ook : ∃ rk : Nat → Nat, ∀ t ∈ d.order, PairOk rk d.tasks.length t
  ond : d.order.Nodup
  m0 : d.models ≠ []
  m8 : d.models.length ≤ 8
  mok : ∀ m ∈ d.models, ascW (m.map V.int) 0 (d.tasks.length : Int) = true
  s0 : d.states ≠ []
  s60 : d.states.length ≤ 60
  sok : ∀ s ∈ d.states, StateOk (d.models.length : Int) (d.states.length : Int) s
  st0 : 0 ≤ d.start
  st1 : d.start < (d.states.length : Int)
  sl : isSlips d.slips = true
  sv : d.slips = .non ∨ ∃ i, d.slips = .int i
/-- what is handed to Line -/
structure LIn (K : PySem.W.Frag) (H : Hp) (t o m s : V) (d : LD) : Prop where
  t : SL K (SL K I0) H t d.tasks
  o : SL K (SL K I0) H o d.order
  m : SL K (SL K I0) H m d.models
  s : SL K (SL K (SL K I0)) H s d.states
theorem LIn.same {K : PySem.W.Frag} {H H' : Hp} {t o m s : V} {d : LD} (e : Same H H') (h : LIn K H t o m s d) : LIn K H' t o m s d :=
  ⟨SL.mono (SL.mono I0.mono) _ _ _ _ e h.t, SL.mono (SL.mono I0.mono) _ _ _ _ e h.o, SL.mono (SL.mono I0.mono) _ _ _ _ e h.m, SL.mono (SL.mono (SL.mono I0.mono)) _ _ _ _ e h.s⟩
def flds (a b c d e f : V) : List (Str × V) := putF "_slips" f (putF "_start" e (putF "_states" d (putF "_models" c (putF "_order" b (putF "_tasks" a [])))))
theorem fl_tasks (a b c d e f : V) : (flds a b c d e f).lookup ("_tasks" : Str) = some a := by
  unfold flds
  rw [lookup_putF, if_neg (by decide +kernel), lookup_putF, if_neg (by decide +kernel), lookup_putF, if_neg (by decide +kernel), lookup_putF, if_neg (by decide +kernel), lookup_putF, if_neg (by decide +kernel), lookup_putF, if_pos rfl]
theorem fl_order (a b c d e f : V) : (flds a b c d e f).lookup ("_order" : Str) = some b := by
  unfold flds
  rw [lookup_putF, if_neg (by decide +kernel), lookup_putF, if_neg (by decide +kernel), lookup_putF, if_neg (by decide +kernel), lookup_putF, if_neg (by decide +kernel), lookup_putF, if_pos rfl]
theorem fl_models (a b c d e f : V) : (flds a b c d e f).lookup ("_models" : Str) = some c := by
  unfold flds
  rw [lookup_putF, if_neg (by decide +kernel), lookup_putF, if_neg (by decide +kernel), lookup_putF, if_neg (by decide +kernel), lookup_putF, if_pos rfl]
theorem fl_states (a b c d e f : V) : (flds a b c d e f).lookup ("_states" : Str) = some d := by
  unfold flds
  rw [lookup_putF, if_neg (by decide +kernel), lookup_putF, if_neg (by decide +kernel), lookup_putF, if_pos rfl]
theorem fl_start (a b c d e f : V) : (flds a b c d e f).lookup ("_start" : Str) = some e := by
  unfold flds
  rw [lookup_putF, if_neg (by decide +kernel), lookup_putF, if_pos rfl]
theorem fl_slips (a b c d e f : V) : (flds a b c d e f).lookup ("_slips" : Str) = some f := by
  unfold flds
  rw [lookup_putF, if_pos rfl]
theorem putF_len (f : Str) (v : V) : ∀ fs : List (Str × V), (putF f v fs).length ≤ fs.length + 1
  | [] => Nat.le_refl _
  | (g, x) :: r => by
    show (if g = f then (g, v) :: r else (g, x) :: putF f v r).length ≤ r.length + 1 + 1
    split
    · exact Nat.le_succ _
    · exact Nat.succ_le_succ (putF_len f v r)
/-- a Line stands at p -/
def LineAt (K : PySem.W.Frag) (C : Addr) (H : Hp) (p : Addr) (d : LD) : Prop := ∃ dx a b c e, H p = some (.ins C dx (flds a b c e (.int d.start) d.slips)) ∧ T2 K H a d.tasks ∧ T2 K H b d.order ∧ T2 K H c d.models ∧ T3 K H e d.states
/-- tuples and instances stay -/
theorem LineAt.same {K : PySem.W.Frag} {C : Addr} {H H' : Hp} {p : Addr} {d : LD} (e : Same H H') (h : LineAt K C H p d) : LineAt K C H' p d := by
  obtain ⟨dx, a, b, c, f, h1, h2, h3, h4, h5⟩ := h
  have s := Stay.same (K := K) e
  exact ⟨dx, a, b, c, f, e _ _ h1, h2.stay s, h3.stay s, h4.stay s, h5.stay s⟩
theorem LineAt.dr {K : PySem.W.Frag} {C s : Addr} {H H' : Hp} {p : Addr} {d : LD} (hs : Spot H s) (e : Dr s H H') (h : LineAt K C H p d) : LineAt K C H' p d := by
  obtain ⟨dx, a, b, c, f, h1, h2, h3, h4, h5⟩ := h
  have st := Stay.dr (K := K) hs e
  obtain ⟨n, _, hn⟩ := hs
  exact ⟨dx, a, b, c, f, e.but _ _ (ne_of h1 hn (by intro z; cases z)) h1, h2.stay st, h3.stay st, h4.stay st, h5.stay st⟩
theorem ne_ins {H : Hp} {p C dx a : Addr} {fs : List (Str × V)} (h : H p = some (.ins C dx fs)) {o : HO} (ho : H a = some o) (hn : ∀ C dx fs, o ≠ .ins C dx fs) : a ≠ p := fun e => by
  rw [e, h] at ho
  exact hn _ _ _ (Option.some.inj ho).symm
theorem stay_ins {K : PySem.W.Frag} {H : Hp} {p C dx dx' : Addr} {fs fs' : List (Str × V)} (h : H p = some (.ins C dx fs)) : Stay K H (upd H p (.ins C dx' fs')) := fun a zs t => by
  rcases t with (t | ⟨o, t⟩) | t
  · exact .inl (.inl (by rw [upd_ne (ne_of t h (by intro z; cases z))]; exact t))
  · exact .inl (.inr ⟨o, by rw [upd_ne (ne_of t h (by intro z; cases z))]; exact t⟩)
  · exact .inr t
/-- what is known of the text's class Line -/
structure Tx (K : PySem.W.Frag) (mg : Str → Option Value) (C : Addr) : Prop where
  t : Txt K mg
  cl : Cls K C
  g_Line : mg "Line" = some (.ref C)
  n_tasks : NoAttr K C "_tasks"
  n_order : NoAttr K C "_order"
  n_models : NoAttr K C "_models"
  n_states : NoAttr K C "_states"
  n_start : NoAttr K C "_start"
  n_slips : NoAttr K C "_slips"
  init : ∃ f fd, Mk K C f ∧ FunD K "__init__" "Line.__init__" (defArgs s_Line___init__) (defBody s_Line___init__) (defScope s_Line___init__) [] [("slips", V.int 0)] f fd
  p_tasks : ∃ p a fd, PropOf K C "tasks" p a ∧ Fun K "tasks" "Line.tasks" s_Line_tasks a fd ∧ Binds K fd ["self"] []
  p_order : ∃ p a fd, PropOf K C "order" p a ∧ Fun K "order" "Line.order" s_Line_order a fd ∧ Binds K fd ["self"] []
  p_models : ∃ p a fd, PropOf K C "models" p a ∧ Fun K "models" "Line.models" s_Line_models a fd ∧ Binds K fd ["self"] []
  p_states : ∃ p a fd, PropOf K C "states" p a ∧ Fun K "states" "Line.states" s_Line_states a fd ∧ Binds K fd ["self"] []
  p_start : ∃ p a fd, PropOf K C "start" p a ∧ Fun K "start" "Line.start" s_Line_start a fd ∧ Binds K fd ["self"] []
  p_slips : ∃ p a fd, PropOf K C "slips" p a ∧ Fun K "slips" "Line.slips" s_Line_slips a fd ∧ Binds K fd ["self"] []
def spInit (K : PySem.W.Frag) (C : Addr) : Sp := fun vs H Q _ => ∃ x dx t o m s, ∃ d : LD, vs = [.ref x, t, o, m, s, .int d.start, d.slips] ∧ H x = some (.ins C dx []) ∧ LIn K H t o m s d ∧ LOk d ∧ ∀ H', (∀ b u, b ≠ x → H b = some u → H' b = some u) → LineAt K C H' x d → Q .non H'
/-- a property of a Line -/
structure Prp (P : Program) (w : World) (K : PySem.W.Frag) (mg : Str → Option Value) (base : Heap) (C : Addr) (f g : Str) : Prop where
  ex : ∃ p a fd, PropOf K C f p a ∧ FnOk P w K mg base CX0 1 a fd ["self"] (getSp C g) ∧ Binds K fd ["self"] []
theorem pe_pr {X : Cx} {C : Addr} {f g : Str} {e : Expr} {ta : TE} {pos : Pos} {k : Nat} (h : Prp X.prog X.w X.K X.mg X.base C f g) (c : Cls X.K C) (hr : Room k X.A) (hk : 2 ≤ k) (he : PE X e ta) (hab : attributeBase e f X.env (eval e X.env) = eval e X.env := by rfl) : PE X (.Attribute e f pos) (tProp C (getSp C g) [] E0 ta) := by
  obtain ⟨p, a, fd, hp, F, b⟩ := h.ex
  exact pe_prop he c hp F (hr.mono hk) b .nil pass0 hab
section
variable {P : Program} {w : World} {K : PySem.W.Frag} {mg : Str → Option Value} {base : Heap} {C : Addr}
theorem q_tasks (T : Tx K mg C) : Prp P w K mg base C "tasks" "_tasks" := by
  obtain ⟨p, a, fd, hp, F, b⟩ := T.p_tasks
  refine ⟨p, a, fd, hp, F.ok sc_Line_tasks (fun vs H Q E h => ?_) (fun cdv A outer s H vs Q E hr h => ?_), b⟩
  · obtain ⟨x, dx, fs, v, rfl, _⟩ := h
    rfl
  obtain ⟨x, dx, fs, v, rfl, hx, hl, q⟩ := h
  exact ⟨_, (pss_one (ps_ret (pe_fld (pv 0) rfl))), ⟨_, rfl, x, C, dx, fs, v, rfl, hx, T.cl, T.n_tasks, hl, q⟩⟩
theorem q_order (T : Tx K mg C) : Prp P w K mg base C "order" "_order" := by
  obtain ⟨p, a, fd, hp, F, b⟩ := T.p_order
  refine ⟨p, a, fd, hp, F.ok sc_Line_order (fun vs H Q E h => ?_) (fun cdv A outer s H vs Q E hr h => ?_), b⟩
  · obtain ⟨x, dx, fs, v, rfl, _⟩ := h
    rfl
  obtain ⟨x, dx, fs, v, rfl, hx, hl, q⟩ := h
  exact ⟨_, (pss_one (ps_ret (pe_fld (pv 0) rfl))), ⟨_, rfl, x, C, dx, fs, v, rfl, hx, T.cl, T.n_order, hl, q⟩⟩
theorem q_models (T : Tx K mg C) : Prp P w K mg base C "models" "_models" := by
  obtain ⟨p, a, fd, hp, F, b⟩ := T.p_models
  refine ⟨p, a, fd, hp, F.ok sc_Line_models (fun vs H Q E h => ?_) (fun cdv A outer s H vs Q E hr h => ?_), b⟩
  · obtain ⟨x, dx, fs, v, rfl, _⟩ := h
    rfl
  obtain ⟨x, dx, fs, v, rfl, hx, hl, q⟩ := h
  exact ⟨_, (pss_one (ps_ret (pe_fld (pv 0) rfl))), ⟨_, rfl, x, C, dx, fs, v, rfl, hx, T.cl, T.n_models, hl, q⟩⟩
theorem q_states (T : Tx K mg C) : Prp P w K mg base C "states" "_states" := by
  obtain ⟨p, a, fd, hp, F, b⟩ := T.p_states
  refine ⟨p, a, fd, hp, F.ok sc_Line_states (fun vs H Q E h => ?_) (fun cdv A outer s H vs Q E hr h => ?_), b⟩
  · obtain ⟨x, dx, fs, v, rfl, _⟩ := h
    rfl
  obtain ⟨x, dx, fs, v, rfl, hx, hl, q⟩ := h
  exact ⟨_, (pss_one (ps_ret (pe_fld (pv 0) rfl))), ⟨_, rfl, x, C, dx, fs, v, rfl, hx, T.cl, T.n_states, hl, q⟩⟩
theorem q_start (T : Tx K mg C) : Prp P w K mg base C "start" "_start" := by
  obtain ⟨p, a, fd, hp, F, b⟩ := T.p_start
  refine ⟨p, a, fd, hp, F.ok sc_Line_start (fun vs H Q E h => ?_) (fun cdv A outer s H vs Q E hr h => ?_), b⟩
  · obtain ⟨x, dx, fs, v, rfl, _⟩ := h
    rfl
  obtain ⟨x, dx, fs, v, rfl, hx, hl, q⟩ := h
  exact ⟨_, (pss_one (ps_ret (pe_fld (pv 0) rfl))), ⟨_, rfl, x, C, dx, fs, v, rfl, hx, T.cl, T.n_start, hl, q⟩⟩
theorem q_slips (T : Tx K mg C) : Prp P w K mg base C "slips" "_slips" := by
  obtain ⟨p, a, fd, hp, F, b⟩ := T.p_slips
  refine ⟨p, a, fd, hp, F.ok sc_Line_slips (fun vs H Q E h => ?_) (fun cdv A outer s H vs Q E hr h => ?_), b⟩
  · obtain ⟨x, dx, fs, v, rfl, _⟩ := h
    rfl
  obtain ⟨x, dx, fs, v, rfl, hx, hl, q⟩ := h
  exact ⟨_, (pss_one (ps_ret (pe_fld (pv 0) rfl))), ⟨_, rfl, x, C, dx, fs, v, rfl, hx, T.cl, T.n_slips, hl, q⟩⟩
theorem ok_init {f : Addr} {fd : FuncData} (F : FunD K "__init__" "Line.__init__" (defArgs s_Line___init__) (defBody s_Line___init__) (defScope s_Line___init__) [] [("slips", V.int 0)] f fd) (X : Tx K mg C) : FnOk P w K mg base CX0 7 f fd ["self", "tasks", "order", "models", "states", "start", "slips"] (spInit K C) := by
  have T := X.t
  have C_checked_tasks : C8.Cal P w K mg base 5 "checked_tasks" (spChkTasks K) [] := c_checked_tasks T
  have C_checked_order : C8.Cal P w K mg base 5 "checked_order" (spChkOrder K) [] := c_checked_order T
  have C_checked_models : C8.Cal P w K mg base 5 "checked_models" (spChkModels K) [] := c_checked_models T
  have C_checked_states : C8.Cal P w K mg base 6 "checked_states" (spChkStates K) [] := c_checked_states T
  have C_is_within : C8.Cal P w K mg base 2 "is_within" (spIsW K) [] := c_is_within T
  have C_is_slips : C8.Cal P w K mg base 3 "is_slips" (spSlips K) [] := c_is_slips T
  refine F.ok sc_Line___init__ (fun vs H Q E h => ?_) (fun cdv A outer s H vs Q E hr h => ?_)
  · obtain ⟨x, dx, t, o, m, s, d, rfl, _⟩ := h
    rfl
  obtain ⟨x, dx, t, o, m, s, d, rfl, hx, I, O, q⟩ := h
  obtain ⟨rk, hrk⟩ := O.ook
  refine ⟨_, PSs.nox (pss_cons (ps_set (i := 7) sc_Line___init__.nd rfl (.inl rfl) (C8.pe_c C_checked_tasks hr (by omega) (by rfl) (pa_cons (pv 1) pa_nil)))
  (pss_cons (ps_set (i := 8) sc_Line___init__.nd rfl (.inl rfl) (C8.pe_c C_checked_order hr (by omega) (by rfl) (pa_cons (pv 2) (pa_cons (pe_callB call_len_seq (by rfl) T.z_len (by decide +kernel) (pa_cons (pv 7) pa_nil)) pa_nil))))
  (pss_cons (ps_set (i := 9) sc_Line___init__.nd rfl (.inl rfl) (C8.pe_c C_checked_models hr (by omega) (by rfl) (pa_cons (pv 3) (pa_cons (pe_callB call_len_seq (by rfl) T.z_len (by decide +kernel) (pa_cons (pv 7) pa_nil)) pa_nil))))
  (pss_cons (ps_set (i := 10) sc_Line___init__.nd rfl (.inl rfl) (C8.pe_c C_checked_states hr (by omega) (by rfl) (pa_cons (pv 4) (pa_cons (pe_callB call_len_seq (by rfl) T.z_len (by decide +kernel) (pa_cons (pv 9) pa_nil)) pa_nil))))
  (pss_cons (ps_if (pt_not (pt_val (C8.pe_c C_is_within hr (by omega) (by rfl) (pa_cons (pv 5) (pa_cons pe_int (pa_cons (pe_op op_sub (pe_callB call_len_seq (by rfl) T.z_len (by decide +kernel) (pa_cons (pv 10) pa_nil)) pe_int) pa_nil))))))
    (pss_one ps_never)
    pss_nil)
  (pss_cons (ps_if (pt_not (pt_val (C8.pe_c C_is_slips hr (by omega) (by rfl) (pa_cons (pv 6) pa_nil))))
    (pss_one ps_never)
    pss_nil)
  (pss_cons (ps_fld (pv 0) (pv 7) rfl)
  (pss_cons (ps_fld (pv 0) (pv 8) rfl)
  (pss_cons (ps_fld (pv 0) (pv 9) rfl)
  (pss_cons (ps_fld (pv 0) (pv 10) rfl)
  (pss_cons (ps_fld (pv 0) (pv 5) rfl)
  (pss_one (ps_fld (pv 0) (pv 6) rfl))))))))))))), ?_⟩
  refine ⟨_, rfl, t, d.tasks, rfl, I.t, O.t0, O.t24, O.tok, fun w1 H1 s1 h1 => ?_⟩
  have l1 : ∃ a xs, w1 = .ref a ∧ SqT K H1 a xs ∧ xs.length = d.tasks.length := by
    obtain ⟨a, xs, e, h, p, _⟩ := h1
    exact ⟨a, xs, e, h, p.length⟩
  obtain ⟨a1, xs1, rfl, ha1, hl1⟩ := l1
  refine ⟨_, rfl, _, rfl, a1, xs1, rfl, .inr ha1, o, d.order, d.tasks.length, rk, by rw [hl1]; rfl, (I.same s1).o, O.o200, O.t24, hrk, O.ond, fun w2 H2 s2 h2 => ?_⟩
  have s12 := s1.trans s2
  refine ⟨_, rfl, _, rfl, a1, xs1, rfl, .inr (Same.sqT s2 ha1), m, d.models, (d.tasks.length : Int), by rw [hl1]; rfl, (I.same s12).m, O.m0, O.m8, O.mok, fun w3 H3 s3 h3 => ?_⟩
  have s123 := s12.trans s3
  have l3 : ∃ a xs, w3 = .ref a ∧ SqT K H3 a xs ∧ xs.length = d.models.length := by
    obtain ⟨a, xs, e, h, p, _⟩ := h3
    exact ⟨a, xs, e, h, p.length⟩
  obtain ⟨a3, xs3, rfl, ha3, hl3⟩ := l3
  refine ⟨_, rfl, _, rfl, a3, xs3, rfl, .inr ha3, s, d.states, (d.models.length : Int), by rw [hl3]; rfl, (I.same s123).s, O.s0, O.s60, O.sok, fun w4 H4 s4 h4 => ?_⟩
  have s1234 := s123.trans s4
  have l4 : ∃ a xs, w4 = .ref a ∧ SqT K H4 a xs ∧ xs.length = d.states.length := by
    obtain ⟨a, xs, e, h, p, _⟩ := h4
    exact ⟨a, xs, e, h, p.length⟩
  obtain ⟨a4, xs4, rfl, ha4, hl4⟩ := l4
  -- is_within(start, 0, len(kept_states) - 1)
  refine ⟨_, rfl, _, rfl, a4, xs4, rfl, .inr ha4, _, _, rfl, rfl, .int d.start, none, 0, (xs4.length : Int) - 1, rfl, .int _, _, rfl, ?_⟩
  rw [inW_of O.st0 (by have := O.st1; omega)]
  refine iteF ?_
  refine ⟨_, rfl, d.slips, none, rfl, ?_, _, rfl, ?_⟩
  · rcases O.sv with z | ⟨i, z⟩ <;> rw [z]
    · exact .non
    · exact .int i
  rw [O.sl]
  refine iteF ?_
  -- the six stores
  have hx4 := s1234 _ _ hx
  have b1 : ∀ {b : Addr} {u : HO}, b ≠ x → H b = some u → H4 b = some u := fun _ e => s1234 _ _ e
  refine ⟨_, rfl, _, rfl, x, C, dx, _, rfl, hx4, X.cl, X.n_tasks, by show 0 < 1000; decide, ?_⟩
  refine ⟨_, rfl, _, rfl, x, C, dx, _, rfl, upd_same, X.cl, X.n_order, ?_, ?_⟩
  · have := putF_len "_tasks" (.ref a1) []
    exact Nat.lt_of_le_of_lt this (by decide)
  refine ⟨_, rfl, _, rfl, x, C, dx, _, rfl, upd_same, X.cl, X.n_models, ?_, ?_⟩
  · have z1 := putF_len "_tasks" (.ref a1) []
    have z2 := putF_len "_order" w2 (putF "_tasks" (.ref a1) [])
    exact Nat.lt_of_le_of_lt (Nat.le_trans z2 (Nat.succ_le_succ z1)) (by decide)
  refine ⟨_, rfl, _, rfl, x, C, dx, _, rfl, upd_same, X.cl, X.n_states, ?_, ?_⟩
  · have z1 := putF_len "_tasks" (.ref a1) []
    have z2 := putF_len "_order" w2 (putF "_tasks" (.ref a1) [])
    have z3 := putF_len "_models" (.ref a3) (putF "_order" w2 (putF "_tasks" (.ref a1) []))
    exact Nat.lt_of_le_of_lt (Nat.le_trans z3 (Nat.succ_le_succ (Nat.le_trans z2 (Nat.succ_le_succ z1)))) (by decide)
  refine ⟨_, rfl, _, rfl, x, C, dx, _, rfl, upd_same, X.cl, X.n_start, ?_, ?_⟩
  · have z1 := putF_len "_tasks" (.ref a1) []
    have z2 := putF_len "_order" w2 (putF "_tasks" (.ref a1) [])
    have z3 := putF_len "_models" (.ref a3) (putF "_order" w2 (putF "_tasks" (.ref a1) []))
    have z4 := putF_len "_states" (.ref a4) (putF "_models" (.ref a3) (putF "_order" w2 (putF "_tasks" (.ref a1) [])))
    exact Nat.lt_of_le_of_lt (Nat.le_trans z4 (Nat.succ_le_succ (Nat.le_trans z3 (Nat.succ_le_succ (Nat.le_trans z2 (Nat.succ_le_succ z1)))))) (by decide)
  refine ⟨_, rfl, _, rfl, x, C, dx, _, rfl, upd_same, X.cl, X.n_slips, ?_, ?_⟩
  · have z1 := putF_len "_tasks" (.ref a1) []
    have z2 := putF_len "_order" w2 (putF "_tasks" (.ref a1) [])
    have z3 := putF_len "_models" (.ref a3) (putF "_order" w2 (putF "_tasks" (.ref a1) []))
    have z4 := putF_len "_states" (.ref a4) (putF "_models" (.ref a3) (putF "_order" w2 (putF "_tasks" (.ref a1) [])))
    have z5 := putF_len "_start" (.int d.start) (putF "_states" (.ref a4) (putF "_models" (.ref a3) (putF "_order" w2 (putF "_tasks" (.ref a1) []))))
    exact Nat.lt_of_le_of_lt (Nat.le_trans z5 (Nat.succ_le_succ (Nat.le_trans z4 (Nat.succ_le_succ (Nat.le_trans z3 (Nat.succ_le_succ (Nat.le_trans z2 (Nat.succ_le_succ z1)))))))) (by decide)
  simp only [upd_upd]
  have st : Stay K H4 (upd H4 x (.ins C dx (flds (.ref a1) w2 (.ref a3) (.ref a4) (.int d.start) d.slips))) := stay_ins hx4
  refine q _ (fun b u hb e => ?_) ⟨dx, .ref a1, w2, .ref a3, .ref a4, upd_same, ?_, ?_, ?_, ?_⟩
  · rw [upd_ne hb]
    exact s1234 _ _ e
  · exact h1.stay ((Stay.same ((s2.trans s3).trans s4)).trans st)
  · exact h2.stay ((Stay.same (s3.trans s4)).trans st)
  · exact h3.stay ((Stay.same s4).trans st)
  · exact h4.stay st
end
end Aq
namespace Aq
open PySem PySem.Spec PyProof.Rows L2
/-! ### calls with keywords -/
structure CalK (P : Program) (w : World) (K : PySem.W.Frag) (mg : Str → Option Value) (base : Heap) (k : Nat) (x : Str) (n : Nat) (ks : List Str) (sp : Sp) : Prop where
  ex : ∃ (f : Addr) (fd : FuncData) (ps : List Str), ∃ g : List Value → List Value → List Value, FnOk P w K mg base CX0 k f fd ps sp ∧ mg x = some (.ref f) ∧ PySem.W.keepIn K (.ref f) = true ∧ KBn K fd ps n ks g (fun vs zs => vs ++ zs)
structure MakK (P : Program) (w : World) (K : PySem.W.Frag) (mg : Str → Option Value) (base : Heap) (k : Nat) (x : Str) (C : Addr) (n : Nat) (ks : List Str) (sp : Sp) : Prop where
  ex : ∃ (f : Addr) (fd : FuncData) (ps : List Str), ∃ g : List Value → List Value → List Value, Mk K C f ∧ FnOk P w K mg base CX0 k f fd ps sp ∧ mg x = some (.ref C) ∧ KBn K fd ps (n + 1) ks g (fun vs zs => vs ++ zs)
section
variable {X : Cx} {k j n : Nat} {C : Addr} {ks : List Str} {sp : Sp} {x : Str} {p pos : Pos} {e : Expr} {es : List Expr} {kws : List Keyword} {t tk : TA}
theorem pe_ck (c : CalK X.prog X.w X.K X.mg X.base k x n ks sp) (hr : Room j X.A) (hk : k ≤ j) (hg : Gl X x) (ha : PA X (e :: es) t) (hkw : PK X kws tk)
    (h1 : (backToKw pos (keywordEach kws X.env)).all (·.1.isSome) = true := by rfl) (h2 : (backToKw pos (keywordEach kws X.env)).filterMap (·.1) = ks := by rfl) (h3 : (x == ("__debug__" : Str)) = false := by decide)
    (h4 : starEach (e :: es) X.env = (false, eval e X.env) :: starEach es X.env := by rfl) (h5 : ((backTo pos (starEach (e :: es) X.env)).any (·.1) || (backToKw pos (keywordEach kws X.env)).any (·.1.isNone)) = false := by rfl) :
    PE X (.Call (.Name x p) (e :: es) kws pos) (tCallN n ks.length sp (fun vs zs => vs ++ zs) E0 t tk) := by
  obtain ⟨f, fd, ps, g, F, hm, kp, b⟩ := c.ex
  exact pe_callN F (hr.mono hk) hg hm kp b pass0 ha hkw h1 h2 h3 h4 h5
theorem pe_mkK (c : MakK X.prog X.w X.K X.mg X.base k x C n ks sp) (hr : Room j X.A) (hk : k + 1 ≤ j) (hg : Gl X x) (ha : PA X (e :: es) t) (hkw : PK X kws tk)
    (h1 : (backToKw pos (keywordEach kws X.env)).all (·.1.isSome) = true := by rfl) (h2 : (backToKw pos (keywordEach kws X.env)).filterMap (·.1) = ks := by rfl) (h3 : (x == ("__debug__" : Str)) = false := by decide)
    (h4 : starEach (e :: es) X.env = (false, eval e X.env) :: starEach es X.env := by rfl) (h5 : ((backTo pos (starEach (e :: es) X.env)).any (·.1) || (backToKw pos (keywordEach kws X.env)).any (·.1.isNone)) = false := by rfl) :
    PE X (.Call (.Name x p) (e :: es) kws pos) (tMakeK C n ks.length sp (fun vs zs => vs ++ zs) E0 t tk) := by
  obtain ⟨f, fd, ps, g, M, F, hm, b⟩ := c.ex
  exact pe_makeK M F (hr.mono hk) hg hm b pass0 ha hkw h1 h2 h3 h4 h5
end
theorem T1.sl {K : PySem.W.Frag} {H : Hp} {v : V} {l : List Int} (h : T1 K H v l) : SL K I0 H v l := TL.sl (fun _ _ z => z) h.tl
theorem T2.sl {K : PySem.W.Frag} {H : Hp} {v : V} {l : List (List Int)} (h : T2 K H v l) : SL K (SL K I0) H v l := by
  obtain ⟨a, xs, e, t, p, z⟩ := h
  exact ⟨a, xs, e, .inr t, L2.Paired.mapP p fun _ _ q => q.sl, z⟩
theorem T3.sl {K : PySem.W.Frag} {H : Hp} {v : V} {l : List (List (List Int))} (h : T3 K H v l) : SL K (SL K (SL K I0)) H v l := by
  obtain ⟨a, xs, e, t, p, z⟩ := h
  exact ⟨a, xs, e, .inr t, L2.Paired.mapP p fun _ _ q => q.sl, z⟩
theorem pd_sl {K : PySem.W.Frag} {H : Hp} {xs : List V} {l : List (List Int)} (p : Paired (T1 K H) xs l) : Paired (SL K I0 H) xs l := L2.Paired.mapP p fun _ _ q => q.sl
section
variable {P : Program} {w : World} {K : PySem.W.Frag} {mg : Str → Option Value} {base : Heap} {C : Addr}
theorem mk_Line (X : Tx K mg C) : MakK P w K mg base 7 "Line" C 5 ["slips"] (spInit K C) := by
  obtain ⟨f, fd, M, F⟩ := X.init
  obtain ⟨mv, b⟩ := F.kbinds0 (ps := ["self", "tasks", "order", "models", "states", "start", "slips"]) 6 ["slips"] [] (fun us _ ws => us ++ ws) (by simp) (by simp) (fun r1 _ r3 => r1.append r3)
    (fun D doc pm an cdv ct us mv ws h1 h2 h3 => match us, mv, ws, h1, h2, h3 with | [_, _, _, _, _, _], [], [_], _, _, _ => rfl)
  exact ⟨f, fd, _, _, M, ok_init F X, X.g_Line, b⟩
end
end Aq
namespace Aq
open PySem PySem.Spec PyProof.Rows L2
/-- the law's own six -/
def L6 (K : PySem.W.Frag) (H : Hp) (v : V) (d : LD) : Prop := ∃ a v1 v2 v3 v4, v = .ref a ∧ SqT K H a [v1, v2, v3, v4, .int d.start, d.slips] ∧ T2 K H v1 d.tasks ∧ T2 K H v2 d.order ∧ T2 K H v3 d.models ∧ T3 K H v4 d.states
theorem L6.stay {K : PySem.W.Frag} {H H' : Hp} {v : V} {d : LD} (s : Stay K H H') (h : L6 K H v d) : L6 K H' v d := by
  obtain ⟨a, v1, v2, v3, v4, e, t, h1, h2, h3, h4⟩ := h
  exact ⟨a, v1, v2, v3, v4, e, s _ _ t, h1.stay s, h2.stay s, h3.stay s, h4.stay s⟩
def spSame (K : PySem.W.Frag) (C : Addr) : Sp := fun vs H Q _ => ∃ p v d, vs = [.ref p, v] ∧ LineAt K C H p d ∧ L6 K H v d ∧ (d.slips = .non ∨ ∃ i, d.slips = .int i) ∧ Q (.bl true) H
section
variable {P : Program} {w : World} {K : PySem.W.Frag} {mg : Str → Option Value} {base : Heap} {C : Addr}
theorem c_so3 (T : Txt K mg) : C8.Cal P w K mg base 4 "_law_so" (spSo K 3) [] :=
  c_so_succ T 2 (c_so_succ T 1 (c_so_succ T 0 (c_so0 T) (c_so0 T)) (c_so0 T)) (c_so0 T)
theorem c_same (X : Tx K mg C) : C8.Cal P w K mg base 5 "_law_same" (spSame K C) [] := by
  have T := X.t
  have C__law_so : C8.Cal P w K mg base 4 "_law_so" (spSo K 3) [] := c_so3 T
  refine T.d__law_same.cal sc__law_same (fun vs H Q E h => ?_) (fun f cdv A outer s H vs Q E hr h => ?_)
  · obtain ⟨p, v, d, rfl, _⟩ := h
    rfl
  obtain ⟨p, v, d, rfl, ⟨dx, w1, w2, w3, w4, hp, hw1, hw2, hw3, hw4⟩, ⟨a, v1, v2, v3, v4, rfl, ta, h1, h2, h3, h4⟩, hs, q⟩ := h
  refine ⟨_, (pss_cons (ps_if (PW.pt (pw_or (pt_not (pt_val (C8.pe_c C__law_so hr (by omega) (by rfl) (pa_cons (pe_pr (q_tasks X) X.cl hr (by omega) (pv 0)) (pa_cons (pe_ix ix_tup (pv 1) pe_int (fun _ _ => rfl)) pa_nil))))) (pw_or (pt_not (pt_val (C8.pe_c C__law_so hr (by omega) (by rfl) (pa_cons (pe_pr (q_order X) X.cl hr (by omega) (pv 0)) (pa_cons (pe_ix ix_tup (pv 1) pe_int (fun _ _ => rfl)) pa_nil))))) (pw_or1 (pt_not (pt_val (C8.pe_c C__law_so hr (by omega) (by rfl) (pa_cons (pe_pr (q_models X) X.cl hr (by omega) (pv 0)) (pa_cons (pe_ix ix_tup (pv 1) pe_int (fun _ _ => rfl)) pa_nil)))))))))
    (pss_one (ps_ret pe_bl))
    pss_nil)
  (pss_cons (ps_if (PW.pt (pw_or (pt_not (pt_val (C8.pe_c C__law_so hr (by omega) (by rfl) (pa_cons (pe_pr (q_states X) X.cl hr (by omega) (pv 0)) (pa_cons (pe_ix ix_tup (pv 1) pe_int (fun _ _ => rfl)) pa_nil))))) (pw_or1 (pt_not (pt_val (C8.pe_c C__law_so hr (by omega) (by rfl) (pa_cons (pe_pr (q_start X) X.cl hr (by omega) (pv 0)) (pa_cons (pe_ix ix_tup (pv 1) pe_int (fun _ _ => rfl)) pa_nil))))))))
    (pss_one (ps_ret pe_bl))
    pss_nil)
  (pss_one (ps_ret (C8.pe_c C__law_so hr (by omega) (by rfl) (pa_cons (pe_pr (q_slips X) X.cl hr (by omega) (pv 0)) (pa_cons (pe_ix ix_tup (pv 1) pe_int (fun _ _ => rfl)) pa_nil))))))), ?_⟩
  refine ⟨_, rfl, p, dx, _, rfl, hp, p, dx, _, _, rfl, hp, fl_tasks .., _, rfl, a, _, _, _, rfl, rfl, ta, atI_nat (j := 0) rfl, _, _, rfl, so2 hw1 h1 1, _, rfl, iteF ?_⟩
  refine ⟨_, rfl, p, dx, _, rfl, hp, p, dx, _, _, rfl, hp, fl_order .., _, rfl, a, _, _, _, rfl, rfl, ta, atI_nat (j := 1) rfl, _, _, rfl, so2 hw2 h2 1, _, rfl, iteF ?_⟩
  refine ⟨_, rfl, p, dx, _, rfl, hp, p, dx, _, _, rfl, hp, fl_models .., _, rfl, a, _, _, _, rfl, rfl, ta, atI_nat (j := 2) rfl, _, _, rfl, so2 hw3 h3 1, _, rfl, iteF ?_⟩
  refine ⟨_, rfl, p, dx, _, rfl, hp, p, dx, _, _, rfl, hp, fl_states .., _, rfl, a, _, _, _, rfl, rfl, ta, atI_nat (j := 3) rfl, _, _, rfl, so3 hw4 h4 0, _, rfl, iteF ?_⟩
  refine ⟨_, rfl, p, dx, _, rfl, hp, p, dx, _, _, rfl, hp, fl_start .., _, rfl, a, _, _, _, rfl, rfl, ta, atI_nat (j := 4) rfl, _, _, rfl, So.sc rfl 3, _, rfl, iteF ?_⟩
  refine ⟨_, rfl, p, dx, _, rfl, hp, p, dx, _, _, rfl, hp, fl_slips .., _, rfl, a, _, _, _, rfl, rfl, ta, atI_nat (j := 5) rfl, _, _, rfl, So.sc ?_ 3, q⟩
  rcases hs with z | ⟨i, z⟩ <;> rw [z] <;> rfl
end
end Aq
namespace Aq
open PySem PySem.Spec PyProof.Rows L2
theorem Spot.some {H : Hp} {s : Addr} (h : Spot H s) : ∃ o, H s = Option.some o := by
  obtain ⟨n, _, e⟩ := h
  exact ⟨_, e⟩
/-- what was new is written over -/
theorem Dr.set {s m : Addr} {H H' : Hp} {o : HO} (d : Dr s H H') (hs : Spot H s) (hm : H m = none) : Dr s H (upd H' m o) := by
  obtain ⟨u, hu⟩ := hs.some
  have n : s ≠ m := ne_of_none hu hm
  obtain ⟨k, hk, e⟩ := d.spot
  exact ⟨fun b x nb e => by rw [upd_ne (ne_of_none e hm)]; exact d.but b x nb e, k, hk, by rw [upd_ne n]; exact e⟩
theorem Dr.refl {s : Addr} {H : Hp} (h : Spot H s) : Dr s H H := ⟨But.refl, h⟩
theorem Dr.free {s a : Addr} {H H' : Hp} (d : Dr s H H') (hs : Spot H s) (h : H' a = none) : H a = none := by
  cases e : H a with
  | none => rfl
  | some o =>
    by_cases n : a = s
    · subst n
      obtain ⟨k, _, e2⟩ := d.spot
      rw [e2] at h
      cases h
    · rw [d.but _ _ n e] at h
      cases h
theorem Spot.ne {s m : Addr} {H : Hp} (hs : Spot H s) (hm : H m = none) : m ≠ s := by
  obtain ⟨u, hu⟩ := hs.some
  exact (ne_of_none hu hm).symm
theorem cut_take (xs : List V) (j : Nat) (h : j ≤ xs.length) : cutV xs none (some (j : Int)) = xs.take j := by
  unfold cutV
  rw [HT.sIx_nat, HT.sIx_none, Nat.min_eq_left h]
  rfl
theorem cut_drop (xs : List V) (j : Nat) (h : j ≤ xs.length) : cutV xs (some (j : Int)) none = xs.drop j := by
  unfold cutV
  rw [HT.sIx_nat, HT.sIx_none, Nat.min_eq_left h]
  exact List.take_of_length_le (by rw [List.length_drop]; exact Nat.le_refl _)
def spMixed : Sp := fun vs H Q _ => ∃ a s l, ∃ ts : List Int, vs = [.ref a, .ref s, .ref l] ∧ RS H a s ∧ H l = some (.lst (ts.map V.int)) ∧ ts.length ≤ 1000 ∧ ∀ p H' (ms : List Int), Dr s H H' → H p = none → H' p = some (.lst (ms.map V.int)) → ms.Perm ts → Q (.ref p) H'
def spTime : Sp := fun vs H Q _ => ∃ a s st, vs = [.ref a, .ref s, .int st] ∧ RS H a s ∧ ∀ (r : Int) H', Dr s H H' → 0 ≤ r → r ≤ 10000 → Q (.int r) H'
def spTaskD (K : PySem.W.Frag) : Sp := fun vs H Q _ => ∃ a s st, vs = [.ref a, .ref s, .int st] ∧ RS H a s ∧ ∀ v t H', Dr s H H' → T1 K H' v t → TaskOk t → Q v H'
section
variable {P : Program} {w : World} {K : PySem.W.Frag} {mg : Str → Option Value} {base : Heap}
theorem c_mixed (T : Txt K mg) : C8.Cal P w K mg base 3 "_law_mixed" spMixed [] := by
  have C__law_take : C8.Cal P w K mg base 2 "_law_take" spTake [] := c_take T
  refine T.d__law_mixed.cal sc__law_mixed (fun vs H Q E h => ?_) (fun f cdv A outer s H vs Q E hr h => ?_)
  · obtain ⟨a, s, l, ts, rfl, _⟩ := h
    rfl
  obtain ⟨a, sp, l, ts, rfl, R, hl, hz, q⟩ := h
  refine ⟨_, (pss_cons (ps_set (i := 3) sc__law_mixed.nd rfl (.inl rfl) (pe_callTy call_list_of (by rfl) T.z_list (by decide +kernel) (pa_cons (pv 2) pa_nil)))
  (pss_cons (ps_set (i := 4) sc__law_mixed.nd rfl (.inl rfl) (pe_lst pa_nil))
  (pss_cons (ps_for PassesOwn.never rfl (pi_range1 (by rfl) T.z_range (pa_cons (pe_callB call_len_seq (by rfl) T.z_len (by decide +kernel) (pa_cons (pv 2) pa_nil)) pa_nil)) (pg_name (i := 5) sc__law_mixed.nd rfl (.inl rfl))
    (pss_cons (ps_set (i := 6) sc__law_mixed.nd rfl (.inl rfl) (C8.pe_c C__law_take hr (by omega) (by rfl) (pa_cons (pv 0) (pa_cons (pv 1) (pa_cons (pe_callB call_len_seq (by rfl) T.z_len (by decide +kernel) (pa_cons (pv 3) pa_nil)) pa_nil)))))
  (pss_cons (ps_expr (pe_bm PySem.F.plainAttrs_list PySem.F.slot_list_append PySem.F.type_list_append mt_append (pv 4) (pa_cons (pe_ix ix_list (pv 3) (pv 6) (fun _ _ => rfl)) pa_nil)))
  (pss_one (ps_set (i := 3) sc__law_mixed.nd rfl (.inl rfl) (pe_op op_cat (pe_slice sl_list (pv 3) po_none (po_some (pv 6))) (pe_slice sl_list (pv 3) (po_some (pe_op op_add (pv 6) pe_int)) po_none)))))))
  (pss_one (ps_ret (pv 4)))))), ?_⟩
  refine ⟨_, rfl, l, _, rfl, .inl (SqL.of hl), fun lf nlf => ?_⟩
  refine ⟨Nat.zero_le _, fun m nm => ?_⟩
  have g1 : Same H (upd H lf (.lst (ts.map V.int))) := grow nlf
  have g2 : Same (upd H lf (.lst (ts.map V.int))) (upd (upd H lf (.lst (ts.map V.int))) m (.lst [])) := grow nm
  have s2 := g1.trans g2
  have nm' : H m = none := g1.free nm
  have elf : (upd (upd H lf (.lst (ts.map V.int))) m (.lst [])) lf = some (.lst (ts.map V.int)) := g2 _ _ upd_same
  have nml : lf ≠ m := ne_of_none (o := .lst (ts.map V.int)) upd_same nm
  refine ⟨_, rfl, l, _, rfl, .inl (SqL.of (s2 _ _ hl)), _, rfl, by omega, by rw [List.length_map]; omega, ?_⟩
  refine for_range (lo := 0) (n := (ts.map V.int).length) (fun i σ H' => ∃ lf y1 y2 ls ms, σ = [some (.ref a), some (.ref sp), some (.ref l), some (.ref lf), some (.ref m), y1, y2] ∧ Dr sp H H' ∧ H lf = none ∧ lf ≠ m ∧ H' lf = some (.lst (List.map V.int ls)) ∧ H' m = some (.lst (List.map V.int ms)) ∧ ms.length = i ∧ (ms ++ ls).Perm ts)
    ⟨lf, none, none, ts, [], rfl, .same R.spot s2, nlf, nml, elf, upd_same, rfl, .refl _⟩ ?_ ?_
  · rintro i σ H' hi ⟨lf, y1, y2, ls, ms, rfl, D, nlf, nml, elf, em, hms, pm⟩
    rw [List.length_map] at hi
    have hlen : ms.length + ls.length = ts.length := by
      have := pm.length_eq
      rwa [List.length_append] at this
    refine ⟨_, rfl, _, rfl, _, rfl, lf, _, rfl, .inl (SqL.of elf), a, sp, ((List.map V.int ls).length : Int), rfl, R.dr D, by rw [List.length_map]; omega, fun r H2 h0 h1 D2 => ?_⟩
    rw [List.length_map] at h1
    obtain ⟨j, rfl⟩ : ∃ j : Nat, r = (j : Int) := ⟨r.toNat, by omega⟩
    have hj : j < ls.length := by omega
    have nlfs : lf ≠ sp := R.spot.ne nlf
    have nms : m ≠ sp := R.spot.ne nm'
    have elf2 := D2.but _ _ nlfs elf
    have em2 := D2.but _ _ nms em
    have g : (List.map V.int ls)[j]? = some (.int ls[j]) := by
      rw [List.getElem?_map, List.getElem?_eq_getElem hj]
      rfl
    have D12 := D.trans D2
    refine ⟨_, rfl, .inl ⟨rfl, _, SqL.of em2⟩, _, rfl, _, rfl, lf, _, _, _, rfl, rfl, SqL.of elf2, atI_nat g, m, _, _, rfl, rfl, em2, small1000' (by rw [List.length_map]; omega), ?_⟩
    have elf3 : (upd H2 m (.lst (List.map V.int ms ++ [.int ls[j]]))) lf = some (.lst (List.map V.int ls)) := by
      rw [upd_ne nml]
      exact elf2
    -- left = left[:at] + left[at + 1:]
    refine ⟨_, rfl, _, rfl, _, rfl, lf, _, rfl, SqL.of elf3, fun p1 n1 => ?_⟩
    have g1 : Same (upd H2 m (.lst (List.map V.int ms ++ [.int ls[j]]))) _ := grow n1 (o := .lst (cutV (List.map V.int ls) none (some (j : Int))))
    refine ⟨_, rfl, _, rfl, _, _, rfl, rfl, _, rfl, lf, _, rfl, SqL.of (g1 _ _ elf3), fun p2 n2 => ?_⟩
    have g2 := grow n2 (o := .lst (cutV (List.map V.int ls) (some ((j : Int) + 1)) none))
    have hc1 : cutV (List.map V.int ls) none (some (j : Int)) = (ls.take j).map V.int := by
      rw [cut_take _ _ (by rw [List.length_map]; omega), List.map_take]
    have hc2 : cutV (List.map V.int ls) (some ((j : Int) + 1)) none = (ls.drop (j + 1)).map V.int := by
      rw [show ((j : Int) + 1) = ((j + 1 : Nat) : Int) by omega, cut_drop _ _ (by rw [List.length_map]; omega), List.map_drop]
    refine ⟨p1, p2, _, _, rfl, rfl, g2 _ _ upd_same, upd_same, ?_, fun p3 n3 => ?_⟩
    · rw [hc1, hc2, List.length_map, List.length_map, List.length_take, List.length_drop]
      have := small1000' (n := ls.length) (by omega)
      omega
    have g3 := grow n3 (o := .lst (cutV (List.map V.int ls) none (some (j : Int)) ++ cutV (List.map V.int ls) (some ((j : Int) + 1)) none))
    have D3 := D12.set (o := .lst (List.map V.int ms ++ [.int ls[j]])) R.spot nm'
    have D4 := ((D3.trans (.same D3.spot g1)).trans (.same (D3.trans (.same D3.spot g1)).spot g2))
    have n3' : H p3 = none := D4.free R.spot n3
    have nm3 : m ≠ p3 := ne_of_none (g2 _ _ (g1 _ _ upd_same)) n3
    refine ⟨p3, _, _, ls.take j ++ ls.drop (j + 1), ms ++ [ls[j]], rfl, D4.trans (.same D4.spot g3), n3', nm3.symm, ?_, ?_, ?_, ?_⟩
    · rw [upd_same, hc1, hc2, List.map_append]
    · rw [g3 _ _ (g2 _ _ (g1 _ _ upd_same)), List.map_append]
      rfl
    · rw [List.length_append, hms]
      rfl
    · have e : ls = ls.take j ++ ls[j] :: ls.drop (j + 1) := by
        rw [← List.drop_eq_getElem_cons hj, List.take_append_drop]
      have h1 : (ms ++ [ls[j]] ++ (ls.take j ++ ls.drop (j + 1))).Perm (ms ++ ls) := by
        rw [List.append_assoc]
        refine List.Perm.append_left ms ?_
        have h2 : (ls.take j ++ ls[j] :: ls.drop (j + 1)).Perm (ls[j] :: (ls.take j ++ ls.drop (j + 1))) := List.perm_middle
        rw [← e] at h2
        exact h2.symm
      exact h1.trans pm
  · rintro σ H' ⟨lf, y1, y2, ls, ms, rfl, D, nlf, nml, elf, em, hms, pm⟩
    have hlen : ms.length + ls.length = ts.length := by
      have := pm.length_eq
      rwa [List.length_append] at this
    rw [List.length_map] at hms
    have e : ls = [] := List.eq_nil_of_length_eq_zero (by omega)
    rw [e, List.append_nil] at pm
    exact ⟨_, rfl, q _ _ ms D nm' em pm⟩
theorem c_time (T : Txt K mg) : C8.Cal P w K mg base 4 "_law_time" spTime [] := by
  have C__law_take : C8.Cal P w K mg base 2 "_law_take" spTake [] := c_take T
  have C__law_wide : C8.Cal P w K mg base 3 "_law_wide" spTake [] := c_wide T
  refine T.d__law_time.cal sc__law_time (fun vs H Q E h => ?_) (fun f cdv A outer s H vs Q E hr h => ?_)
  · obtain ⟨a, s, st, rfl, _⟩ := h
    rfl
  obtain ⟨a, sp, st, rfl, R, q⟩ := h
  refine ⟨_, (pss_cons (ps_if (pt_cmpR op_eq (pv 2) pe_int (nomark _))
    (pss_one (ps_ret (C8.pe_c C__law_take hr (by omega) (by rfl) (pa_cons (pv 0) (pa_cons (pv 1) (pa_cons pe_int pa_nil))))))
    pss_nil)
  (pss_cons (ps_if (pt_cmpR op_eq (pv 2) pe_int (nomark _))
    (pss_one (ps_ret (C8.pe_c C__law_take hr (by omega) (by rfl) (pa_cons (pv 0) (pa_cons (pv 1) (pa_cons pe_int pa_nil))))))
    pss_nil)
  (pss_one (ps_ret (pe_ix ix_list (pe_lst (pa_cons pe_int (pa_cons pe_int (pa_cons pe_int (pa_cons (C8.pe_c C__law_wide hr (by omega) (by rfl) (pa_cons (pv 0) (pa_cons (pv 1) (pa_cons pe_int pa_nil)))) pa_nil))))) (C8.pe_c C__law_take hr (by omega) (by rfl) (pa_cons (pv 0) (pa_cons (pv 1) (pa_cons pe_int pa_nil)))) (fun _ _ => rfl)))))), ?_⟩
  refine ⟨_, rfl, rfl, _, rfl, ite2 (fun _ => ?_) (fun _ => ?_)⟩
  · exact ⟨_, rfl, _, rfl, a, sp, 7, rfl, R, by decide, fun r H1 h0 h1 D => q r H1 D h0 (by omega)⟩
  refine ⟨_, rfl, rfl, _, rfl, ite2 (fun _ => ?_) (fun _ => ?_)⟩
  · exact ⟨_, rfl, _, rfl, a, sp, 100, rfl, R, by decide, fun r H1 h0 h1 D => q r H1 D h0 (by omega)⟩
  refine ⟨_, rfl, _, rfl, a, sp, 10001, rfl, R, by decide, fun z H1 h0 h1 D => ⟨by show 4 ≤ sizeLine; decide, fun p np => ?_⟩⟩
  have g := grow np (o := .lst [.int 0, .int 1, .int 10000, .int z])
  have D1 := D.trans (.same D.spot g)
  have np' : H p = none := D.free R.spot np
  refine ⟨_, rfl, _, rfl, a, sp, 4, rfl, R.dr D1, by decide, fun r H2 h2 h3 D2 => ?_⟩
  have ep := D2.but _ _ (R.spot.ne np') (upd_same (H := H1) (a := p) (o := .lst [.int 0, .int 1, .int 10000, .int z]))
  have D12 := D1.trans D2
  obtain ⟨j, rfl⟩ : ∃ j : Nat, r = (j : Int) := ⟨r.toNat, by omega⟩
  match j, h3 with
  | 0, _ => exact ⟨p, _, _, _, rfl, rfl, SqL.of ep, atI_nat (j := 0) rfl, q _ _ D12 (by decide) (by decide)⟩
  | 1, _ => exact ⟨p, _, _, _, rfl, rfl, SqL.of ep, atI_nat (j := 1) rfl, q _ _ D12 (by decide) (by decide)⟩
  | 2, _ => exact ⟨p, _, _, _, rfl, rfl, SqL.of ep, atI_nat (j := 2) rfl, q _ _ D12 (by decide) (by decide)⟩
  | 3, _ => exact ⟨p, _, _, _, rfl, rfl, SqL.of ep, atI_nat (j := 3) rfl, q _ _ D12 h0 (by omega)⟩
  | j + 4, h3 => exact absurd h3 (by omega)
theorem c_task (T : Txt K mg) : C8.Cal P w K mg base 5 "_law_task" (spTaskD K) [] := by
  have C__law_take : C8.Cal P w K mg base 2 "_law_take" spTake [] := c_take T
  have C__law_time : C8.Cal P w K mg base 4 "_law_time" spTime [] := c_time T
  refine T.d__law_task.cal sc__law_task (fun vs H Q E h => ?_) (fun f cdv A outer s H vs Q E hr h => ?_)
  · obtain ⟨a, s, st, rfl, _⟩ := h
    rfl
  obtain ⟨a, sp, st, rfl, R, q⟩ := h
  refine ⟨_, (pss_cons (ps_set (i := 3) sc__law_task.nd rfl (.inl rfl) (C8.pe_c C__law_time hr (by omega) (by rfl) (pa_cons (pv 0) (pa_cons (pv 1) (pa_cons (pv 2) pa_nil)))))
  (pss_cons (ps_if (pt_cmpR op_eq (C8.pe_c C__law_take hr (by omega) (by rfl) (pa_cons (pv 0) (pa_cons (pv 1) (pa_cons pe_int pa_nil)))) pe_int (nomark _))
    (pss_one (ps_ret (pe_tup (pa_cons (pv 3) (pa_cons (pv 3) pa_nil)))))
    pss_nil)
  (pss_one (ps_ret (pe_tup (pa_cons (pv 3) (pa_cons (pe_callB (call_min2 rfl) (by rfl) T.z_min (by decide +kernel) (pa_cons pe_int (pa_cons (pe_op op_add (pv 3) (C8.pe_c C__law_time hr (by omega) (by rfl) (pa_cons (pv 0) (pa_cons (pv 1) (pa_cons (pv 2) pa_nil))))) pa_nil))) pa_nil))))))), ?_⟩
  refine ⟨_, rfl, _, rfl, _, rfl, a, sp, st, rfl, R, fun u H1 D1 u0 u1 => ?_⟩
  refine ⟨_, rfl, _, rfl, a, sp, 2, rfl, R.dr D1, by decide, fun r H2 h0 h1 D2 => ⟨rfl, _, rfl, ite2 (fun _ => ?_) (fun _ => ?_)⟩⟩
  · refine ⟨_, rfl, _, rfl, by show 2 ≤ sizeLine; decide, fun p np => q _ [u, u] _ ((D1.trans D2).grow np) ⟨p, rfl, SqT.of upd_same, by show 2 ≤ 1000; decide⟩ ⟨u, u, rfl, u0, Int.le_refl _, u1⟩⟩
  · refine ⟨_, rfl, _, rfl, _, rfl, _, rfl, _, rfl, a, sp, st, rfl, (R.dr D1).dr D2, fun x H3 D3 x0 x1 => ?_⟩
    refine ⟨_, _, rfl, rfl, _, _, rfl, by show 2 ≤ sizeLine; decide, fun p np => q _ [u, if u + x < 10000 then u + x else 10000] _ (((D1.trans D2).trans D3).grow np) ⟨p, rfl, SqT.of upd_same, by show 2 ≤ 1000; decide⟩ ⟨u, _, rfl, u0, ?_, ?_⟩⟩
    · split <;> omega
    · split <;> omega
end
end Aq
namespace Aq
open PySem PySem.Spec PyProof.Rows L2
theorem asc_of {n : Int} : ∀ (ks : List Int) (lo : Int), ks.Pairwise (· < ·) → (∀ k ∈ ks, lo ≤ k ∧ k < n) → ascW (ks.map V.int) lo n = true
  | [], _, _, _ => rfl
  | x :: r, lo, hp, hb => by
    obtain ⟨h1, h2⟩ := List.pairwise_cons.mp hp
    show (inW (.int x) lo (n - 1) && ascW (r.map V.int) (x + 1) n) = true
    have hx := hb x (List.mem_cons_self ..)
    rw [inW_of hx.1 (by omega), asc_of r (x + 1) h2 fun k hk => ⟨by have := h1 k hk; omega, (hb k (List.mem_cons_of_mem _ hk)).2⟩]
    rfl
theorem rgV_map (n : Nat) : rgV 0 (n : Int) = ((List.range n).map fun k : Nat => (k : Int)).map V.int := by
  unfold rgV
  rw [List.map_map]
  have e : ((n : Int) - 0).toNat = n := by omega
  rw [e]
  refine List.map_congr_left fun k _ => ?_
  show V.int (0 + (k : Int)) = V.int (k : Int)
  rw [Int.zero_add]
def rgI (n : Nat) : List Int := (List.range n).map fun k : Nat => (k : Int)
theorem rgI_len (n : Nat) : (rgI n).length = n := by
  unfold rgI
  rw [List.length_map, List.length_range]
theorem rgI_mem {n : Nat} {x : Int} : x ∈ rgI n ↔ ∃ k : Nat, k < n ∧ x = (k : Int) := by
  unfold rgI
  rw [List.mem_map]
  exact ⟨fun ⟨k, h1, h2⟩ => ⟨k, List.mem_range.mp h1, h2.symm⟩, fun ⟨k, h1, h2⟩ => ⟨k, List.mem_range.mpr h1, h2.symm⟩⟩
theorem rgI_lt (n : Nat) : (rgI n).Pairwise (· < ·) := by
  unfold rgI
  exact List.Pairwise.map (R := fun a b : Nat => a < b) _ (fun a b h => by omega) List.pairwise_lt_range
theorem rgI_nd (n : Nat) : (rgI n).Nodup := (rgI_lt n).imp fun h => by omega
def ModelOk (n : Nat) (m : List Int) : Prop := ascW (m.map V.int) 0 (n : Int) = true ∧ m.length ≤ n
def spModel (K : PySem.W.Frag) : Sp := fun vs H Q _ => ∃ a s, ∃ n : Nat, vs = [.ref a, .ref s, .int (n : Int)] ∧ RS H a s ∧ n ≤ 1000 ∧ ∀ v m H', Dr s H H' → T1 K H' v m → ModelOk n m → Q v H'
def spStates (K : PySem.W.Frag) : Sp := fun vs H Q _ => ∃ a s, ∃ n wd mn : Nat, vs = [.ref a, .ref s, .int (n : Int), .int (wd : Int), .int (mn : Int)] ∧ RS H a s ∧ 1 ≤ n ∧ 1 ≤ wd ∧ wd ≤ 60 ∧ 1 ≤ mn ∧ mn ≤ 40 ∧
  ∀ v l H', Dr s H H' → T3 K H' v l → 1 ≤ l.length → l.length ≤ wd → (∀ t ∈ l, StateOk (n : Int) (l.length : Int) t) → Q v H'
def spPairs (K : PySem.W.Frag) : Sp := fun vs H Q _ => ∃ a s, ∃ n mn : Nat, vs = [.ref a, .ref s, .int (n : Int), .int (mn : Int)] ∧ RS H a s ∧ 1 ≤ n ∧ n ≤ 1000 ∧ mn ≤ 200 ∧
  ∀ v l H', Dr s H H' → T2 K H' v l → l.length ≤ mn → (∃ rk : Nat → Nat, ∀ t ∈ l, PairOk rk n t) → l.Nodup → Q v H'
section
variable {P : Program} {w : World} {K : PySem.W.Frag} {mg : Str → Option Value} {base : Heap}
theorem c_model (T : Txt K mg) : C8.Cal P w K mg base 3 "_law_model" (spModel K) [] := by
  have C__law_take : C8.Cal P w K mg base 2 "_law_take" spTake [] := c_take T
  refine T.d__law_model.cal sc__law_model (fun vs H Q E h => ?_) (fun f cdv A outer s H vs Q E hr h => ?_)
  · obtain ⟨a, s, n, rfl, _⟩ := h
    rfl
  obtain ⟨a, sp, n, rfl, R, hn, q⟩ := h
  refine ⟨_, (pss_cons (ps_set (i := 3) sc__law_model.nd rfl (.inl rfl) (C8.pe_c C__law_take hr (by omega) (by rfl) (pa_cons (pv 0) (pa_cons (pv 1) (pa_cons pe_int pa_nil)))))
  (pss_cons (ps_if (pt_cmpR op_eq (pv 3) pe_int (nomark _))
    (pss_one (ps_ret (pe_tupRg (by rfl) (by rfl) T.z_tuple (prg_1 (by rfl) T.z_range (pv 2)))))
    pss_nil)
  (pss_one (ps_ret (pe_callTy call_tuple_of (by rfl) T.z_tuple (by decide +kernel) (pa_cons (pe_lc (own := [("k", 4)]) (g := gName 4) (by rfl) sc__law_model.nd (pi_range1 (by rfl) T.z_range (pa_cons (pv 2) pa_nil)) (blkOk_by (own := [("k", 4)]) (N := ["row", "spot", "count", "style", "k"]) (sc := defScope s__law_model) (by decide +kernel)) (fun _ _ _ _ _ => pg_name (i := 4) sc__law_model.nd rfl (Or.inl rfl)) (fun _ _ _ _ _ => (pts_one (pt_cmpR op_gt (C8.pe_c C__law_take hr (by omega) (by rfl) (pa_cons (pv 0) (pa_cons (pv 1) (pa_cons pe_int pa_nil)))) pe_int (nomark _)))) (fun _ _ _ _ _ => (pv 4))) pa_nil)))))), ?_⟩
  refine ⟨_, rfl, _, rfl, a, sp, 4, rfl, R, by decide, fun r H1 h0 h1 D1 => ?_⟩
  refine ⟨_, rfl, rfl, _, rfl, ite2 (fun _ => ?_) (fun _ => ?_)⟩
  · refine ⟨_, rfl, (n : Int), rfl, .of_le (by omega) (by omega) (by omega) (by omega), fun p np => ?_⟩
    refine q _ (rgI n) _ (D1.grow np) ⟨p, rfl, SqT.of (by rw [upd_same, rgV_map]; rfl), by rw [rgI_len]; exact hn⟩ ⟨asc_of _ _ (rgI_lt n) fun k hk => ?_, by rw [rgI_len]; exact Nat.le_refl _⟩
    obtain ⟨j, hj, rfl⟩ := rgI_mem.mp hk
    omega
  · refine ⟨_, rfl, _, rfl, by omega, by omega, fun D hD => lc_range (lo := 0) (n := n) (fun i H' => Dr sp H1 H' ∧ ∃ ks : List Int, H' D = some (.lst (ks.map V.int)) ∧ ks.Pairwise (· < ·) ∧ (∀ k ∈ ks, 0 ≤ k ∧ k < (i : Int)) ∧ ks.length ≤ i) ⟨(Dr.refl D1.spot).grow hD, [], upd_same, .nil, fun k hk => by simp at hk, Nat.le_refl _⟩ ?_ ?_⟩
    · rintro i H' hi ⟨D2, ks, eD, hp, hb, hl⟩
      have e0 : (0 : Int) + (i : Int) = (i : Int) := Int.zero_add _
      rw [e0]
      refine ⟨rfl, ?_⟩
      refine ⟨_, rfl, _, rfl, a, sp, 3, rfl, (R.dr D1).dr D2, by decide, fun r H2 h2 h3 D3 => ?_⟩
      have nD := D1.spot.ne hD
      have eD3 := D3.but _ _ nD eD
      refine ⟨_, _, rfl, rfl, _, rfl, ite2 (fun _ => ?_) (fun _ => ?_)⟩
      · refine ⟨_, rfl, _, eD3, small1000' (by rw [List.length_map]; omega), (D2.trans D3).set D1.spot hD, ks ++ [(i : Int)], by rw [upd_same, List.map_append]; rfl, ?_, fun k hk => ?_, by rw [List.length_append]; show ks.length + 1 ≤ _; omega⟩
        · refine List.pairwise_append.mpr ⟨hp, List.pairwise_singleton .., fun x hx y hy => ?_⟩
          rw [List.mem_singleton.mp hy]
          exact (hb x hx).2
        · rcases List.mem_append.mp hk with hk | hk
          · have := hb k hk
            omega
          · rw [List.mem_singleton.mp hk]
            omega
      · exact ⟨D2.trans D3, ks, eD3, hp, fun k hk => ⟨(hb k hk).1, by have := (hb k hk).2; omega⟩, by omega⟩
    · rintro H' ⟨D2, ks, eD, hp, hb, hl⟩
      exact ⟨D, _, rfl, .inl ⟨SqL.of eD, fun p np => q _ ks _ ((D1.trans D2).grow np) ⟨p, rfl, SqT.of upd_same, by omega⟩ ⟨asc_of _ _ hp hb, hl⟩⟩⟩
theorem c_states (T : Txt K mg) : C8.Cal P w K mg base 3 "_law_states" (spStates K) [] := by
  have C__law_take : C8.Cal P w K mg base 2 "_law_take" spTake [] := c_take T
  refine T.d__law_states.cal sc__law_states (fun vs H Q E h => ?_) (fun f cdv A outer s H vs Q E hr h => ?_)
  · obtain ⟨a, s, n, wd, mn, rfl, _⟩ := h
    rfl
  obtain ⟨a, sp, n, wd, mn, rfl, R, hn, hw1, hw2, hm1, hm2, q⟩ := h
  refine ⟨_, (pss_cons (ps_set (i := 5) sc__law_states.nd rfl (.inl rfl) (pe_op op_add pe_int (C8.pe_c C__law_take hr (by omega) (by rfl) (pa_cons (pv 0) (pa_cons (pv 1) (pa_cons (pv 3) pa_nil))))))
  (pss_cons (ps_set (i := 6) sc__law_states.nd rfl (.inl rfl) (pe_lst pa_nil))
  (pss_cons (ps_for PassesOwn.never rfl (pi_range1 (by rfl) T.z_range (pa_cons (pv 5) pa_nil)) (pg_name (i := 7) sc__law_states.nd rfl (.inl rfl))
    (pss_cons (ps_set (i := 8) sc__law_states.nd rfl (.inl rfl) (pe_lst pa_nil))
  (pss_cons (ps_for PassesOwn.never rfl (pi_range1 (by rfl) T.z_range (pa_cons (pe_op op_add pe_int (C8.pe_c C__law_take hr (by omega) (by rfl) (pa_cons (pv 0) (pa_cons (pv 1) (pa_cons (pv 4) pa_nil))))) pa_nil)) (pg_name (i := 9) sc__law_states.nd rfl (.inl rfl))
    (pss_cons (ps_set (i := 10) sc__law_states.nd rfl (.inl rfl) (pe_tup (pa_cons (C8.pe_c C__law_take hr (by omega) (by rfl) (pa_cons (pv 0) (pa_cons (pv 1) (pa_cons (pv 2) pa_nil)))) (pa_cons (C8.pe_c C__law_take hr (by omega) (by rfl) (pa_cons (pv 0) (pa_cons (pv 1) (pa_cons (pv 5) pa_nil)))) pa_nil))))
  (pss_one (ps_if (pt_cmpR (op_notInD (hu65 hr)) (pv 10) (pv 8) (by rfl))
    (pss_one (ps_expr (pe_bm PySem.F.plainAttrs_list PySem.F.slot_list_append PySem.F.type_list_append mt_append (pv 8) (pa_cons (pv 10) pa_nil))))
    pss_nil))))
  (pss_one (ps_expr (pe_bm PySem.F.plainAttrs_list PySem.F.slot_list_append PySem.F.type_list_append mt_append (pv 6) (pa_cons (pe_callTy call_tuple_of (by rfl) T.z_tuple (by decide +kernel) (pa_cons (pv 8) pa_nil)) pa_nil)))))))
  (pss_one (ps_ret (pe_callTy call_tuple_of (by rfl) T.z_tuple (by decide +kernel) (pa_cons (pv 6) pa_nil))))))), ?_⟩
  -- count
  refine ⟨_, rfl, _, rfl, _, rfl, a, sp, (wd : Int), rfl, R, by omega, fun c H1 c0 c1 D1 => ⟨_, _, rfl, rfl, ?_⟩⟩
  obtain ⟨cn, hcn⟩ : ∃ k : Nat, 1 + c = (k : Int) := ⟨(1 + c).toNat, by omega⟩
  refine ⟨Nat.zero_le _, fun m nm => ?_⟩
  have nmH : H m = none := D1.free R.spot nm
  have D1' := D1.grow nm (o := .lst [])
  refine ⟨_, rfl, _, rfl, by omega, by omega, for_range (lo := 0) (n := (1 + c).toNat) (fun i σ H' => ∃ y1 y2 y3 y4 acc, ∃ l : List (List (List Int)), σ = [some (.ref a), some (.ref sp), some (.int (n : Int)), some (.int (wd : Int)), some (.int (mn : Int)), some (.int (1 + c)), some (.ref m), y1, y2, y3, y4] ∧ Dr sp H H' ∧ H' m = some (.lst acc) ∧ Paired (T2 K H') acc l ∧ l.length = i ∧ ∀ t ∈ l, StateOk (n : Int) (cn : Int) t)
    ⟨none, none, none, none, [], [], rfl, D1', upd_same, .nil, rfl, fun t ht => by simp at ht⟩ ?_ ?_⟩
  · rintro i σ H' hi ⟨y1, y2, y3, y4, acc, l, rfl, D2, em, pa, hl, hok⟩
    -- arcs = []
    refine ⟨Nat.zero_le _, fun o no => ?_⟩
    have go := grow no (o := .lst [])
    have noH : H o = none := D2.free R.spot no
    have nmo : m ≠ o := ne_of_none em no
    have D3 := D2.grow no (o := .lst [])
    have S3 : Stay K H' (upd H' o (.lst [])) := Stay.same go
    refine ⟨_, rfl, _, rfl, _, rfl, a, sp, (mn : Int), rfl, R.dr D3, by omega, fun r H3 h0 h1 D4 => ⟨_, _, rfl, rfl, _, rfl, by omega, by omega, ?_⟩⟩
    have D34 := D3.trans D4
    have S4 := Stay.dr (K := K) D3.spot D4
    have em4 : H3 m = some (.lst acc) := D4.but _ _ (R.spot.ne nmH) (go _ _ em)
    have eo4 : H3 o = some (.lst []) := D4.but _ _ (R.spot.ne noH) upd_same
    refine for_range (lo := 0) (n := (1 + r).toNat) (fun j σ H' => ∃ y1 y3 y4 arcs, ∃ al : List (List Int), σ = [some (.ref a), some (.ref sp), some (.int (n : Int)), some (.int (wd : Int)), some (.int (mn : Int)), some (.int (1 + c)), some (.ref m), y1, some (.ref o), y3, y4] ∧ Dr sp H H' ∧ H' m = some (.lst acc) ∧ Paired (T2 K H') acc l ∧ H' o = some (.lst arcs) ∧ Paired (T1 K H') arcs al ∧ al.length ≤ j ∧ (1 ≤ j → 1 ≤ al.length) ∧ al.Nodup ∧ ∀ t ∈ al, ArcOk (n : Int) (cn : Int) t)
      ⟨_, _, _, [], [], rfl, D34, em4, pd_stay2 (S3.trans S4) pa, eo4, .nil, Nat.le_refl _, fun z => absurd z (by decide), .nil, fun t ht => by simp at ht⟩ ?_ ?_
    · rintro j σ H' hj ⟨y1, y3, y4, arcs, al, rfl, D5, em, pa, eo, pl, hal, hal1, hnd, haok⟩
      -- arc = (take, take)
      refine ⟨_, rfl, _, rfl, _, rfl, a, sp, (n : Int), rfl, R.dr D5, by omega, fun r1 H6 h2 h3 D6 => ?_⟩
      refine ⟨_, rfl, _, rfl, _, rfl, a, sp, 1 + c, rfl, (R.dr D5).dr D6, by omega, fun r2 H7 h4 h5 D7 => ?_⟩
      refine ⟨by show 2 ≤ sizeLine; decide, fun t nt => ?_⟩
      have gt := grow nt (o := .tup [.int r1, .int r2])
      have D57 := (D6.trans D7).grow nt (o := .tup [.int r1, .int r2])
      have S57 := Stay.dr (K := K) D5.spot D57
      have em7 := D57.but _ _ (R.spot.ne nmH) em
      have eo7 := D57.but _ _ (R.spot.ne noH) eo
      have D7' := D5.trans D57
      have tt : T1 K (upd H7 t (.tup [.int r1, .int r2])) (.ref t) [r1, r2] := ⟨t, rfl, SqT.of upd_same, by show 2 ≤ 1000; decide⟩
      have ok : ArcOk (n : Int) (cn : Int) [r1, r2] := ⟨r1, r2, rfl, h2, h3, h4, by omega⟩
      have pl' := pl.length
      refine ⟨_, rfl, _, rfl, ?_⟩
      have hno : rNotInD K (.ref t) (.ref o) (upd H7 t (.tup [.int r1, .int r2])) = rNotInD K (.ref t) (.ref o) (upd H7 t (.tup [.int r1, .int r2])) := rfl
      refine ⟨ipd [r1, r2], al.map ipd, tt.dp, .lst (SqL.of eo7) (pd_dpa (pd_stay S57 pl)), sh_ipd _, sh_ipds al, _, rfl, ?_⟩
      rw [any_ipd]
      by_cases hm : [r1, r2] ∈ al
      · rw [decide_eq_true hm]
        refine iteF ⟨_, _, _, arcs, al, rfl, D7', em7, pd_stay2 S57 pa, eo7, pd_stay S57 pl, by omega, fun _ => ?_, hnd, haok⟩
        exact List.length_pos_of_mem hm
      · rw [decide_eq_false hm]
        refine iteT ⟨_, rfl, .inl ⟨rfl, _, SqL.of eo7⟩, _, rfl, o, arcs, _, rfl, rfl, eo7, small1000' (by omega), ?_⟩
        have S8 : Stay K (upd H7 t (.tup [.int r1, .int r2])) (upd (upd H7 t (.tup [.int r1, .int r2])) o (.lst (arcs ++ [.ref t]))) := stay_set eo7
        refine ⟨_, _, _, arcs ++ [.ref t], al ++ [[r1, r2]], rfl, D7'.set R.spot noH, by rw [upd_ne nmo]; exact em7, pd_stay2 (S57.trans S8) pa, upd_same, Pd.snoc (pd_stay (S57.trans S8) pl) (tt.stay S8), by rw [List.length_append]; show al.length + 1 ≤ _; omega, fun _ => by rw [List.length_append]; show 1 ≤ al.length + 1; omega, ?_, fun x hx => ?_⟩
        · refine List.nodup_append.mpr ⟨hnd, by simp, fun x hx y hy e => ?_⟩
          rw [List.mem_singleton.mp hy] at e
          exact hm (e ▸ hx)
        · rcases List.mem_append.mp hx with hx | hx
          · exact haok x hx
          · rw [List.mem_singleton.mp hx]
            exact ok
    · rintro σ H' ⟨y1, y3, y4, arcs, al, rfl, D5, em, pa, eo, pl, hal, hal1, hnd, haok⟩
      have hl1 : 1 ≤ al.length := hal1 (by omega)
      have hl40 : al.length ≤ 40 := by omega
      -- made.append(tuple(arcs))
      refine ⟨_, rfl, .inl ⟨rfl, _, SqL.of em⟩, _, rfl, o, arcs, rfl, .inl ⟨SqL.of eo, fun t nt => ?_⟩⟩
      have gt := grow nt (o := .tup arcs)
      have tt : T2 K (upd H' t (.tup arcs)) (.ref t) al := ⟨t, arcs, rfl, SqT.of upd_same, pd_stay (Stay.same gt) pl, by omega⟩
      have pal := pa.length
      refine ⟨m, acc, _, rfl, rfl, gt _ _ em, small1000' (by omega), ?_⟩
      have S8 : Stay K (upd H' t (.tup arcs)) (upd (upd H' t (.tup arcs)) m (.lst (acc ++ [.ref t]))) := stay_set (gt _ _ em)
      refine ⟨_, _, _, _, acc ++ [.ref t], l ++ [al], rfl, (D5.grow nt).set R.spot nmH, upd_same, Pd.snoc (pd_stay2 ((Stay.same gt).trans S8) pa) (tt.stay S8), by rw [List.length_append, hl]; rfl, fun x hx => ?_⟩
      rcases List.mem_append.mp hx with hx | hx
      · exact hok x hx
      · rw [List.mem_singleton.mp hx]
        exact ⟨hl1, hl40, haok, hnd⟩
  · rintro σ H' ⟨y1, y2, y3, y4, acc, l, rfl, D2, em, pa, hl, hok⟩
    have hcl : l.length = cn := by omega
    refine ⟨_, rfl, m, acc, rfl, .inl ⟨SqL.of em, fun p np => ?_⟩⟩
    refine q _ l _ (D2.grow np) ⟨p, acc, rfl, SqT.of upd_same, pd_stay2 (Stay.same (grow np)) pa, by omega⟩ (by omega) (by omega) ?_
    rw [hcl]
    exact hok
end
end Aq
namespace Aq
open PySem PySem.Spec PyProof.Rows L2
def spLine (K : PySem.W.Frag) : Sp := fun vs H Q _ => ∃ a s, ∃ tk wd mn sl : Nat, vs = [.ref a, .ref s, .int (tk : Int), .int (wd : Int), .int (mn : Int), .int (sl : Int)] ∧ RS H a s ∧ 1 ≤ tk ∧ tk ≤ 24 ∧ 1 ≤ wd ∧ wd ≤ 60 ∧ 1 ≤ mn ∧ mn ≤ 40 ∧ sl ≤ 8 ∧
  ∀ v d H', Dr s H H' → L6 K H' v d → LOk d → Q v H'
def spCase (K : PySem.W.Frag) : Sp := fun vs H Q _ => ∃ a s, vs = [.ref a, .ref s] ∧ RS H a s ∧ ∀ v d H', Dr s H H' → L6 K H' v d → LOk d → Q v H'
section
variable {P : Program} {w : World} {K : PySem.W.Frag} {mg : Str → Option Value} {base : Heap}
theorem c_pairs_of (T : Txt K mg) : C8.Cal P w K mg base 4 "_law_pairs_of" (spPairs K) [] := by
  have C__law_take : C8.Cal P w K mg base 2 "_law_take" spTake [] := c_take T
  have C__law_mixed : C8.Cal P w K mg base 3 "_law_mixed" spMixed [] := c_mixed T
  refine T.d__law_pairs_of.cal sc__law_pairs_of (fun vs H Q E h => ?_) (fun f cdv A outer s H vs Q E hr h => ?_)
  · obtain ⟨a, s, n, mn, rfl, _⟩ := h
    rfl
  obtain ⟨a, sp, n, mn, rfl, R, hn1, hn, hmn, q⟩ := h
  refine ⟨_, (pss_cons (ps_set (i := 4) sc__law_pairs_of.nd rfl (.inl rfl) (C8.pe_c C__law_mixed hr (by omega) (by rfl) (pa_cons (pv 0) (pa_cons (pv 1) (pa_cons (pe_listRg (by rfl) (by rfl) T.z_list (prg_1 (by rfl) T.z_range (pv 2))) pa_nil)))))
  (pss_cons (ps_set (i := 5) sc__law_pairs_of.nd rfl (.inl rfl) (pe_lst pa_nil))
  (pss_cons (ps_for PassesOwn.never rfl (pi_range1 (by rfl) T.z_range (pa_cons (pv 3) pa_nil)) (pg_name (i := 6) sc__law_pairs_of.nd rfl (.inl rfl))
    (pss_cons (ps_set (i := 7) sc__law_pairs_of.nd rfl (.inl rfl) (C8.pe_c C__law_take hr (by omega) (by rfl) (pa_cons (pv 0) (pa_cons (pv 1) (pa_cons (pv 2) pa_nil)))))
  (pss_cons (ps_set (i := 8) sc__law_pairs_of.nd rfl (.inl rfl) (C8.pe_c C__law_take hr (by omega) (by rfl) (pa_cons (pv 0) (pa_cons (pv 1) (pa_cons (pv 2) pa_nil)))))
  (pss_one (ps_if (pt_cmpR op_ne (pv 7) (pv 8) (nomark _))
    (pss_cons (ps_set (i := 9) sc__law_pairs_of.nd rfl (.inl rfl) (pe_tup (pa_cons (pe_ix ix_list (pv 4) (pe_callB (call_min2 rfl) (by rfl) T.z_min (by decide +kernel) (pa_cons (pv 7) (pa_cons (pv 8) pa_nil))) (fun _ _ => rfl)) (pa_cons (pe_ix ix_list (pv 4) (pe_callB (call_max2 rfl) (by rfl) T.z_max (by decide +kernel) (pa_cons (pv 7) (pa_cons (pv 8) pa_nil))) (fun _ _ => rfl)) pa_nil))))
  (pss_one (ps_if (pt_cmpR (op_notInD (hu65 hr)) (pv 9) (pv 5) (by rfl))
    (pss_one (ps_expr (pe_bm PySem.F.plainAttrs_list PySem.F.slot_list_append PySem.F.type_list_append mt_append (pv 5) (pa_cons (pv 9) pa_nil))))
    pss_nil)))
    pss_nil)))))
  (pss_one (ps_ret (pe_callTy call_tuple_of (by rfl) T.z_tuple (by decide +kernel) (pa_cons (pv 5) pa_nil))))))), ?_⟩
  refine ⟨_, rfl, _, rfl, _, rfl, (n : Int), rfl, .of_le (by omega) (by omega) (by omega) (by omega), fun lg nlg => ?_⟩
  have g1 := grow nlg (o := .lst (rgV 0 (n : Int)))
  refine ⟨a, sp, lg, rgI n, rfl, R.same g1, by rw [upd_same, rgV_map]; rfl, by rw [rgI_len]; exact hn, fun p H1 ms D1 np ep pm => ?_⟩
  have D1' := (Dr.same R.spot g1).trans D1
  have npH : H p = none := g1.free np
  have hms : ms.length = n := by rw [pm.length_eq, rgI_len]
  have hnd : ms.Nodup := pm.symm.nodup (rgI_nd n)
  have hmb : ∀ i (h : i < ms.length), ∃ k : Nat, k < n ∧ ms[i] = (k : Int) := fun i h => rgI_mem.mp (pm.mem_iff.mp (List.getElem_mem h))
  refine ⟨Nat.zero_le _, fun m nm => ?_⟩
  have gm := grow nm (o := .lst [])
  have nmH : H m = none := D1'.free R.spot nm
  have npm : p ≠ m := ne_of_none ep nm
  refine ⟨_, rfl, _, rfl, by omega, by omega, for_range (lo := 0) (n := mn) (fun i σ H' => ∃ y1 y2 y3 y4 acc, ∃ l : List (List Int), σ = [some (.ref a), some (.ref sp), some (.int (n : Int)), some (.int (mn : Int)), some (.ref p), some (.ref m), y1, y2, y3, y4] ∧ Dr sp H H' ∧ H' p = some (.lst (ms.map V.int)) ∧ H' m = some (.lst acc) ∧ Paired (T1 K H') acc l ∧ l.length ≤ i ∧ l.Nodup ∧ ∀ t ∈ l, PairOk (fun v => ms.idxOf (v : Int)) n t)
    ⟨none, none, none, none, [], [], rfl, D1'.grow nm, gm _ _ ep, upd_same, .nil, Nat.le_refl _, .nil, fun t ht => by simp at ht⟩ ?_ ?_⟩
  · rintro i σ H' hi ⟨y1, y2, y3, y4, acc, l, rfl, D2, ep, em, pa, hl, hln, hok⟩
    refine ⟨_, rfl, _, rfl, _, rfl, a, sp, (n : Int), rfl, R.dr D2, by omega, fun r1 H3 h1 h2 D3 => ?_⟩
    refine ⟨_, rfl, _, rfl, _, rfl, a, sp, (n : Int), rfl, (R.dr D2).dr D3, by omega, fun r2 H4 h3 h4 D4 => ?_⟩
    have D34 := D3.trans D4
    have S34 := Stay.dr (K := K) D2.spot D34
    have ep4 := D34.but _ _ (R.spot.ne npH) ep
    have em4 := D34.but _ _ (R.spot.ne nmH) em
    refine ⟨_, rfl, _, rfl, rfl, _, rfl, ?_⟩
    obtain ⟨x, rfl⟩ : ∃ j : Nat, r1 = (j : Int) := ⟨r1.toNat, by omega⟩
    obtain ⟨y, rfl⟩ : ∃ j : Nat, r2 = (j : Int) := ⟨r2.toNat, by omega⟩
    by_cases hxy : x = y
    · rw [decide_eq_true (by rw [hxy])]
      exact iteF ⟨_, _, _, _, acc, l, rfl, D2.trans D34, ep4, em4, pd_stay S34 pa, by omega, hln, hok⟩
    · rw [decide_eq_false fun z => hxy (by have := V.int.inj z; omega)]
      refine iteT ?_
      have e1 : (if (y : Int) < (x : Int) then (y : Int) else (x : Int)) = ((min x y : Nat) : Int) := by
        split <;> omega
      have e2 : (if (y : Int) > (x : Int) then (y : Int) else (x : Int)) = ((max x y : Nat) : Int) := by
        split <;> omega
      have hi1 : min x y < ms.length := by omega
      have hj1 : max x y < ms.length := by omega
      have g1 : (ms.map V.int)[min x y]? = some (.int ms[min x y]) := by
        rw [List.getElem?_map, List.getElem?_eq_getElem hi1]
        rfl
      have g2 : (ms.map V.int)[max x y]? = some (.int ms[max x y]) := by
        rw [List.getElem?_map, List.getElem?_eq_getElem hj1]
        rfl
      refine ⟨_, rfl, _, rfl, _, rfl, _, _, rfl, p, _, _, _, rfl, rfl, SqL.of ep4, at_of e1 g1, ?_⟩
      refine ⟨_, rfl, _, rfl, _, rfl, _, _, rfl, p, _, _, _, rfl, rfl, SqL.of ep4, at_of e2 g2, ?_⟩
      refine ⟨by show 2 ≤ sizeLine; decide, fun t nt => ?_⟩
      obtain ⟨u1, hu1, eu1⟩ := hmb _ hi1
      obtain ⟨u2, hu2, eu2⟩ := hmb _ hj1
      have gt := grow nt (o := .tup [.int ms[min x y], .int ms[max x y]])
      have tt : T1 K (upd H4 t (.tup [.int ms[min x y], .int ms[max x y]])) (.ref t) [ms[min x y], ms[max x y]] := ⟨t, rfl, SqT.of upd_same, by show 2 ≤ 1000; decide⟩
      have S4t := S34.trans (Stay.same gt)
      have ok : PairOk (fun v => ms.idxOf (v : Int)) n [ms[min x y], ms[max x y]] := by
        refine ⟨u1, u2, by rw [eu1, eu2], hu1, hu2, ?_⟩
        show ms.idxOf (u1 : Int) < ms.idxOf (u2 : Int)
        rw [← eu1, ← eu2, hnd.idxOf_getElem _ hi1, hnd.idxOf_getElem _ hj1]
        omega
      have pl := pa.length
      refine ⟨_, rfl, _, rfl, ipd [ms[min x y], ms[max x y]], l.map ipd, tt.dp, .lst (SqL.of (gt _ _ em4)) (pd_dpa (pd_stay S4t pa)), sh_ipd _, sh_ipds l, _, rfl, ?_⟩
      rw [any_ipd]
      by_cases hmem : [ms[min x y], ms[max x y]] ∈ l
      · rw [decide_eq_true hmem]
        exact iteF ⟨_, _, _, _, acc, l, rfl, (D2.trans D34).grow nt, gt _ _ ep4, gt _ _ em4, pd_stay S4t pa, by omega, hln, hok⟩
      · rw [decide_eq_false hmem]
        refine iteT ⟨_, rfl, .inl ⟨rfl, _, SqL.of (gt _ _ em4)⟩, _, rfl, m, acc, _, rfl, rfl, gt _ _ em4, small1000' (by omega), ?_⟩
        have S8 : Stay K (upd H4 t (.tup [.int ms[min x y], .int ms[max x y]])) (upd (upd H4 t (.tup [.int ms[min x y], .int ms[max x y]])) m (.lst (acc ++ [.ref t]))) := stay_set (gt _ _ em4)
        refine ⟨_, _, _, _, acc ++ [.ref t], l ++ [[ms[min x y], ms[max x y]]], rfl, ((D2.trans D34).grow nt).set R.spot nmH, by rw [upd_ne npm]; exact gt _ _ ep4, upd_same, Pd.snoc (pd_stay (S4t.trans S8) pa) (tt.stay S8), by rw [List.length_append]; show l.length + 1 ≤ _; omega, ?_, fun z hz => ?_⟩
        · refine List.nodup_append.mpr ⟨hln, by simp, fun z hz y hy e => ?_⟩
          rw [List.mem_singleton.mp hy] at e
          exact hmem (e ▸ hz)
        · rcases List.mem_append.mp hz with hz | hz
          · exact hok z hz
          · rw [List.mem_singleton.mp hz]
            exact ok
  · rintro σ H' ⟨y1, y2, y3, y4, acc, l, rfl, D2, ep, em, pa, hl, hln, hok⟩
    refine ⟨_, rfl, m, acc, rfl, .inl ⟨SqL.of em, fun z nz => ?_⟩⟩
    exact q _ l _ (D2.grow nz) ⟨z, acc, rfl, SqT.of upd_same, pd_stay (Stay.same (grow nz)) pa, by omega⟩ hl ⟨_, hok⟩ hln
end
end Aq
namespace Aq
open PySem PySem.Spec PyProof.Rows L2
section
variable {P : Program} {w : World} {K : PySem.W.Frag} {mg : Str → Option Value} {base : Heap}
set_option maxHeartbeats 4000000 in
theorem c_line (T : Txt K mg) : C8.Cal P w K mg base 6 "_law_line" (spLine K) [] := by
  have C__law_take : C8.Cal P w K mg base 2 "_law_take" spTake [] := c_take T
  have C__law_task : C8.Cal P w K mg base 5 "_law_task" (spTaskD K) [] := c_task T
  have C__law_pairs_of : C8.Cal P w K mg base 4 "_law_pairs_of" (spPairs K) [] := c_pairs_of T
  have C__law_model : C8.Cal P w K mg base 3 "_law_model" (spModel K) [] := c_model T
  have C__law_states : C8.Cal P w K mg base 3 "_law_states" (spStates K) [] := c_states T
  refine T.d__law_line.cal sc__law_line (fun vs H Q E h => ?_) (fun f cdv A outer s H vs Q E hr h => ?_)
  · obtain ⟨a, s, tk, wd, mn, sl, rfl, _⟩ := h
    rfl
  obtain ⟨a, sp, tk, wd, mn, sl, rfl, R, ht1, ht2, hw1, hw2, hm1, hm2, hsl, q⟩ := h
  refine ⟨_, (pss_cons (ps_set (i := 6) sc__law_line.nd rfl (.inr rfl) (pe_ix ix_list (pe_lst (pa_cons pe_int (pa_cons pe_int (pa_cons pe_int (pa_cons pe_int pa_nil))))) (C8.pe_c C__law_take hr (by omega) (by rfl) (pa_cons (pv 0) (pa_cons (pv 1) (pa_cons pe_int pa_nil)))) (fun _ _ => rfl)))
  (pss_cons (ps_set (i := 7) sc__law_line.nd rfl (.inr rfl) (pe_op op_add pe_int (C8.pe_c C__law_take hr (by omega) (by rfl) (pa_cons (pv 0) (pa_cons (pv 1) (pa_cons (pv 2) pa_nil))))))
  (pss_cons (ps_set (i := 8) sc__law_line.nd rfl (.inl rfl) (pe_callTy call_tuple_of (by rfl) T.z_tuple (by decide +kernel) (pa_cons (pe_lc (own := [("k", 14)]) (g := gName 14) (te := tCall (spTaskD K) [] E0 (tCons (tVar 0) (tCons (tVar 1) (tCons (tVar 6) tNil)))) (by rfl) sc__law_line.nd (pi_range1 (by rfl) T.z_range (pa_cons (pv 7) pa_nil)) (blkOk_by (own := [("k", 14)]) (N := ["row", "spot", "tasks", "wide", "many", "slips", "style", "count", "jobs", "pairs", "kinds", "states", "start", "left", "k"]) (sc := defScope s__law_line) (by decide +kernel)) (fun _ _ _ _ _ => pg_name (i := 14) sc__law_line.nd rfl (Or.inl rfl)) (fun _ _ _ _ _ => pts_nil) (fun _ _ _ _ _ => (C8.pe_c C__law_task hr (by omega) (by rfl) (pa_cons (pv 0) (pa_cons (pv 1) (pa_cons (pv 6) pa_nil)))))) pa_nil)))
  (pss_cons (ps_set (i := 9) sc__law_line.nd rfl (.inl rfl) (C8.pe_c C__law_pairs_of hr (by omega) (by rfl) (pa_cons (pv 0) (pa_cons (pv 1) (pa_cons (pv 7) (pa_cons (C8.pe_c C__law_take hr (by omega) (by rfl) (pa_cons (pv 0) (pa_cons (pv 1) (pa_cons (pe_op op_add (pv 7) pe_int) pa_nil)))) pa_nil))))))
  (pss_cons (ps_set (i := 10) sc__law_line.nd rfl (.inl rfl) (pe_callTy call_tuple_of (by rfl) T.z_tuple (by decide +kernel) (pa_cons (pe_lc (own := [("k", 14)]) (g := gName 14) (te := tCall (spModel K) [] E0 (tCons (tVar 0) (tCons (tVar 1) (tCons (tVar 7) tNil)))) (by rfl) sc__law_line.nd (pi_range1 (by rfl) T.z_range (pa_cons (pe_op op_add pe_int (C8.pe_c C__law_take hr (by omega) (by rfl) (pa_cons (pv 0) (pa_cons (pv 1) (pa_cons pe_int pa_nil))))) pa_nil)) (blkOk_by (own := [("k", 14)]) (N := ["row", "spot", "tasks", "wide", "many", "slips", "style", "count", "jobs", "pairs", "kinds", "states", "start", "left", "k"]) (sc := defScope s__law_line) (by decide +kernel)) (fun _ _ _ _ _ => pg_name (i := 14) sc__law_line.nd rfl (Or.inl rfl)) (fun _ _ _ _ _ => pts_nil) (fun _ _ _ _ _ => (C8.pe_c C__law_model hr (by omega) (by rfl) (pa_cons (pv 0) (pa_cons (pv 1) (pa_cons (pv 7) pa_nil)))))) pa_nil)))
  (pss_cons (ps_set (i := 11) sc__law_line.nd rfl (.inl rfl) (C8.pe_c C__law_states hr (by omega) (by rfl) (pa_cons (pv 0) (pa_cons (pv 1) (pa_cons (pe_callB call_len_seq (by rfl) T.z_len (by decide +kernel) (pa_cons (pv 10) pa_nil)) (pa_cons (pv 3) (pa_cons (pv 4) pa_nil)))))))
  (pss_cons (ps_set (i := 12) sc__law_line.nd rfl (.inl rfl) (C8.pe_c C__law_take hr (by omega) (by rfl) (pa_cons (pv 0) (pa_cons (pv 1) (pa_cons (pe_callB call_len_seq (by rfl) T.z_len (by decide +kernel) (pa_cons (pv 11) pa_nil)) pa_nil)))))
  (pss_cons (ps_set (i := 13) sc__law_line.nd rfl (.inl rfl) (pe_ifExp (pt_cmpR op_eq (C8.pe_c C__law_take hr (by omega) (by rfl) (pa_cons (pv 0) (pa_cons (pv 1) (pa_cons pe_int pa_nil)))) pe_int (nomark _)) pe_non (C8.pe_c C__law_take hr (by omega) (by rfl) (pa_cons (pv 0) (pa_cons (pv 1) (pa_cons (pe_op op_add (pv 5) pe_int) pa_nil))))))
  (pss_one (ps_ret (pe_tup (pa_cons (pv 8) (pa_cons (pv 9) (pa_cons (pv 10) (pa_cons (pv 11) (pa_cons (pv 12) (pa_cons (pv 13) pa_nil))))))))))))))))), ?_⟩
  -- style
  refine ⟨by show 4 ≤ sizeLine; decide, fun p np => ?_⟩
  have g := grow np (o := .lst [.int 0, .int 0, .int 1, .int 2])
  refine ⟨_, rfl, _, rfl, a, sp, 4, rfl, R.same g, by decide, fun r H1 h0 h1 D1 => ?_⟩
  have ep := D1.but _ _ (R.spot.ne np) (upd_same (H := H) (a := p) (o := .lst [.int 0, .int 0, .int 1, .int 2]))
  have D1' := (Dr.same R.spot g).trans D1
  have hst : ∃ st : Int, ([V.int 0, V.int 0, V.int 1, V.int 2])[r.toNat]? = some (.int st) := by
    obtain ⟨j, rfl⟩ : ∃ j : Nat, r = (j : Int) := ⟨r.toNat, by omega⟩
    rw [Int.toNat_natCast]
    match j, h1 with
    | 0, _ => exact ⟨_, rfl⟩
    | 1, _ => exact ⟨_, rfl⟩
    | 2, _ => exact ⟨_, rfl⟩
    | 3, _ => exact ⟨_, rfl⟩
    | j + 4, h => exact absurd h (by omega)
  obtain ⟨st, hst⟩ := hst
  refine ⟨p, _, _, _, rfl, rfl, SqL.of ep, at_of (j := r.toNat) (by omega) hst, ?_⟩
  have R1 := R.dr D1'
  -- count
  refine ⟨_, rfl, _, rfl, _, rfl, a, sp, (tk : Int), rfl, R1, by omega, fun c H2 c0 c1 D2 => ⟨_, _, rfl, rfl, ?_⟩⟩
  obtain ⟨cn, hcn⟩ : ∃ k : Nat, 1 + c = (k : Int) := ⟨(1 + c).toNat, by omega⟩
  have D12 := D1'.trans D2
  have R2 := R.dr D12
  -- jobs
  refine ⟨_, rfl, _, rfl, by omega, by omega, fun L1 nL1 => lc_range (lo := 0) (n := (1 + c).toNat) (fun i H' => Dr sp H2 H' ∧ ∃ acc, ∃ l : List (List Int), H' L1 = some (.lst acc) ∧ Paired (T1 K H') acc l ∧ l.length = i ∧ ∀ t ∈ l, TaskOk t) ⟨(Dr.refl R2.spot).grow nL1, [], [], upd_same, .nil, rfl, fun t ht => by simp at ht⟩ ?_ ?_⟩
  · rintro i H' hi ⟨D3, acc, l, eL, pa, hl, hok⟩
    refine ⟨rfl, ?_⟩
    refine ⟨_, rfl, _, rfl, _, rfl, a, sp, st, rfl, R2.dr D3, fun v t H4 D4 hv htok => ?_⟩
    have eL4 := D4.but _ _ (R2.spot.ne nL1) eL
    have S4 := Stay.dr (K := K) D3.spot D4
    have pl := pa.length
    have st8 : Stay K H4 (upd H4 L1 (.lst (acc ++ [v]))) := stay_set eL4
    refine ⟨acc, eL4, small1000' (by omega), (D3.trans D4).set R2.spot nL1, acc ++ [v], l ++ [t], upd_same, Pd.snoc (pd_stay (S4.trans st8) pa) (hv.stay st8), by rw [List.length_append, hl]; rfl, fun x hx => ?_⟩
    rcases List.mem_append.mp hx with hx | hx
    · exact hok x hx
    · rw [List.mem_singleton.mp hx]
      exact htok
  rintro H3 ⟨D3, acc1, l1, eL, pa1, hl1, hok1⟩
  have hl1' : l1.length = cn := by omega
  refine ⟨L1, acc1, rfl, .inl ⟨SqL.of eL, fun J nJ => ?_⟩⟩
  have gJ := grow nJ (o := .tup acc1)
  have hJ : T2 K (upd H3 J (.tup acc1)) (.ref J) l1 := ⟨J, acc1, rfl, SqT.of upd_same, pd_stay (Stay.same gJ) pa1, by omega⟩
  have D23 := D12.trans (D3.grow nJ (o := .tup acc1))
  have R3 := R.dr D23
  -- pairs
  refine ⟨_, rfl, _, rfl, _, rfl, _, rfl, _, rfl, _, rfl, _, _, rfl, rfl, a, sp, 1 + c + 1, rfl, R3, by omega, fun pm H5 p0 p1 D5 => ?_⟩
  obtain ⟨pn, rfl⟩ : ∃ j : Nat, pm = (j : Int) := ⟨pm.toNat, by omega⟩
  have R5 := R3.dr D5
  refine ⟨a, sp, cn, pn, by rw [← hcn]; rfl, R5, by omega, by omega, by omega, fun v2 l2 H6 D6 hv2 hl2 hrk hnd2 => ?_⟩
  have D6' := D23.trans (D5.trans D6)
  have S6 := (Stay.dr (K := K) R3.spot (D5.trans D6))
  have R6 := R.dr D6'
  -- kinds
  refine ⟨_, rfl, _, rfl, a, sp, 3, rfl, R6, by decide, fun kr H7 k0 k1 D7 => ⟨_, _, rfl, rfl, _, rfl, by omega, by omega, ?_⟩⟩
  have R7 := R6.dr D7
  refine fun L2 nL2 => lc_range (lo := 0) (n := (1 + kr).toNat) (fun i H' => Dr sp H7 H' ∧ ∃ acc, ∃ l : List (List Int), H' L2 = some (.lst acc) ∧ Paired (T1 K H') acc l ∧ l.length = i ∧ ∀ t ∈ l, ModelOk cn t) ⟨(Dr.refl R7.spot).grow nL2, [], [], upd_same, .nil, rfl, fun t ht => by simp at ht⟩ ?_ ?_
  · rintro i H' hi ⟨D8, acc, l, eL, pa, hl, hok⟩
    refine ⟨rfl, ?_⟩
    refine ⟨_, rfl, _, rfl, _, rfl, a, sp, cn, by rw [← hcn]; rfl, R7.dr D8, by omega, fun v t H9 D9 hv htok => ?_⟩
    have eL4 := D9.but _ _ (R7.spot.ne nL2) eL
    have S4 := Stay.dr (K := K) D8.spot D9
    have pl := pa.length
    have st8 : Stay K H9 (upd H9 L2 (.lst (acc ++ [v]))) := stay_set eL4
    refine ⟨acc, eL4, small1000' (by omega), (D8.trans D9).set R7.spot nL2, acc ++ [v], l ++ [t], upd_same, Pd.snoc (pd_stay (S4.trans st8) pa) (hv.stay st8), by rw [List.length_append, hl]; rfl, fun x hx => ?_⟩
    rcases List.mem_append.mp hx with hx | hx
    · exact hok x hx
    · rw [List.mem_singleton.mp hx]
      exact htok
  rintro H8 ⟨D8, acc3, l3, eL3, pa3, hl3, hok3⟩
  refine ⟨L2, acc3, rfl, .inl ⟨SqL.of eL3, fun M nM => ?_⟩⟩
  have gM := grow nM (o := .tup acc3)
  have hM : T2 K (upd H8 M (.tup acc3)) (.ref M) l3 := ⟨M, acc3, rfl, SqT.of upd_same, pd_stay (Stay.same gM) pa3, by omega⟩
  have D78 := D7.trans (D8.grow nM (o := .tup acc3))
  have S8 := Stay.dr (K := K) R6.spot D78
  have R8 := R6.dr D78
  have lac : acc3.length = l3.length := pa3.length
  -- states
  refine ⟨_, rfl, _, rfl, _, rfl, M, acc3, rfl, .inr (SqT.of upd_same), _, rfl, _, rfl, a, sp, l3.length, wd, mn, by rw [lac]; rfl, R8, by omega, hw1, hw2, hm1, hm2, fun v4 l4 H9 D9 hv4 h41 h42 hok4 => ?_⟩
  have S9 := Stay.dr (K := K) R8.spot D9
  have R9 := R8.dr D9
  obtain ⟨s4, xs4, rfl, t4, p4, z4⟩ := hv4
  have lx4 : xs4.length = l4.length := p4.length
  -- start
  refine ⟨_, rfl, _, rfl, _, rfl, s4, xs4, rfl, .inr t4, a, sp, (xs4.length : Int), rfl, R9, by omega, fun sr H10 sr0 sr1 D10 => ?_⟩
  have R10 := R9.dr D10
  have S10 := Stay.dr (K := K) R9.spot D10
  -- left
  refine ⟨_, rfl, _, rfl, a, sp, 5, rfl, R10, by decide, fun lr H11 lr0 lr1 D11 => ⟨rfl, _, rfl, ?_⟩⟩
  have R11 := R10.dr D11
  have S11 := Stay.dr (K := K) R10.spot D11
  have rest : ∀ (lf : V) H12, Dr sp H11 H12 → isSlips lf = true → (lf = .non ∨ ∃ i, lf = .int i) → ∀ J', H12 J' = none → Q (.ref J') (upd H12 J' (.tup [.ref J, v2, .ref M, .ref s4, .int sr, lf])) := fun lf H12 D12' hlf hlf2 J' nJ' => by
    have S12 := Stay.dr (K := K) R11.spot D12'
    have gF := grow nJ' (o := .tup [.ref J, v2, .ref M, .ref s4, .int sr, lf])
    have Sf := Stay.same (K := K) gF
    refine q _ ⟨l1, l2, l3, l4, sr, lf⟩ _ (((((D6'.trans D78).trans D9).trans D10).trans (D11.trans D12')).grow nJ') ⟨J', _, _, _, _, rfl, SqT.of upd_same, ?_, ?_, ?_, ?_⟩ ?_
    · exact hJ.stay ((((((S6.trans S8).trans S9).trans S10).trans S11).trans S12).trans Sf)
    · exact hv2.stay (((((S8.trans S9).trans S10).trans S11).trans S12).trans Sf)
    · exact hM.stay ((((S9.trans S10).trans S11).trans S12).trans Sf)
    · exact T3.stay (((S10.trans S11).trans S12).trans Sf) ⟨s4, xs4, rfl, t4, p4, z4⟩
    · exact { t0 := fun e => by have : l1.length = 0 := by rw [show l1 = [] from e]; rfl
                                omega
              t24 := by show l1.length ≤ 24; omega
              tok := hok1
              o200 := by show l2.length ≤ 200; omega
              ook := by rw [show ({ tasks := l1, order := l2, models := l3, states := l4, start := sr, slips := lf } : LD).tasks.length = cn from hl1']; exact hrk
              ond := hnd2
              m0 := fun e => by have : l3.length = 0 := by rw [show l3 = [] from e]; rfl
                                omega
              m8 := by show l3.length ≤ 8; omega
              mok := fun m hm => by
                show ascW (m.map V.int) 0 (l1.length : Int) = true
                rw [hl1']
                exact (hok3 m hm).1
              s0 := fun e => by have : l4.length = 0 := by rw [show l4 = [] from e]; rfl
                                omega
              s60 := by show l4.length ≤ 60; omega
              sok := hok4
              st0 := sr0
              st1 := by show sr < (l4.length : Int); omega
              sl := hlf
              sv := hlf2 }
  refine ite2 (fun _ => ?_) (fun _ => ?_)
  · refine ⟨_, rfl, _, rfl, _, rfl, _, rfl, _, rfl, _, rfl, by show 6 ≤ sizeLine; decide, fun J' nJ' => rest .non H11 (Dr.refl R11.spot) rfl (.inl rfl) J' nJ'⟩
  · refine ⟨_, rfl, _, rfl, _, rfl, _, _, rfl, rfl, a, sp, (sl : Int) + 1, rfl, R11, by omega, fun x H12 x0 x1 D12' => ?_⟩
    refine ⟨_, rfl, _, rfl, _, rfl, _, rfl, _, rfl, _, rfl, by show 6 ≤ sizeLine; decide, fun J' nJ' => rest (.int x) H12 D12' (inW_of x0 (by omega)) (.inr ⟨x, rfl⟩) J' nJ'⟩
theorem c_case (T : Txt K mg) : C8.Cal P w K mg base 7 "_law_case" (spCase K) [] := by
  have C__law_take : C8.Cal P w K mg base 2 "_law_take" spTake [] := c_take T
  have C__law_line : C8.Cal P w K mg base 6 "_law_line" (spLine K) [] := c_line T
  refine T.d__law_case.cal sc__law_case (fun vs H Q E h => ?_) (fun f cdv A outer s H vs Q E hr h => ?_)
  · obtain ⟨a, s, rfl, _⟩ := h
    rfl
  obtain ⟨a, sp, rfl, R, q⟩ := h
  refine ⟨_, (pss_cons (ps_set (i := 2) sc__law_case.nd rfl (.inl rfl) (C8.pe_c C__law_take hr (by omega) (by rfl) (pa_cons (pv 0) (pa_cons (pv 1) (pa_cons pe_int pa_nil)))))
  (pss_cons (ps_if (pt_cmpR op_eq (pv 2) pe_int (nomark _))
    (pss_one (ps_ret (C8.pe_c C__law_line hr (by omega) (by rfl) (pa_cons (pv 0) (pa_cons (pv 1) (pa_cons pe_int (pa_cons pe_int (pa_cons pe_int (pa_cons pe_int pa_nil)))))))))
    pss_nil)
  (pss_cons (ps_if (pt_cmpR op_eq (pv 2) pe_int (nomark _))
    (pss_one (ps_ret (C8.pe_c C__law_line hr (by omega) (by rfl) (pa_cons (pv 0) (pa_cons (pv 1) (pa_cons pe_int (pa_cons pe_int (pa_cons pe_int (pa_cons pe_int pa_nil)))))))))
    pss_nil)
  (pss_cons (ps_if (pt_cmpR op_eq (pv 2) pe_int (nomark _))
    (pss_one (ps_ret (C8.pe_c C__law_line hr (by omega) (by rfl) (pa_cons (pv 0) (pa_cons (pv 1) (pa_cons pe_int (pa_cons pe_int (pa_cons pe_int (pa_cons pe_int pa_nil)))))))))
    pss_nil)
  (pss_one (ps_ret (C8.pe_c C__law_line hr (by omega) (by rfl) (pa_cons (pv 0) (pa_cons (pv 1) (pa_cons pe_int (pa_cons pe_int (pa_cons pe_int (pa_cons pe_int pa_nil))))))))))))), ?_⟩
  refine ⟨_, rfl, _, rfl, a, sp, 4, rfl, R, by decide, fun r H1 h0 h1 D1 => ?_⟩
  have go : ∀ tk wd mn sl : Nat, 1 ≤ tk → tk ≤ 24 → 1 ≤ wd → wd ≤ 60 → 1 ≤ mn → mn ≤ 40 → sl ≤ 8 → spLine K [.ref a, .ref sp, .int (tk : Int), .int (wd : Int), .int (mn : Int), .int (sl : Int)] H1 Q E0 := fun tk wd mn sl h1 h2 h3 h4 h5 h6 h7 =>
    ⟨a, sp, tk, wd, mn, sl, rfl, R.dr D1, h1, h2, h3, h4, h5, h6, h7, fun v d H2 D2 hv hd => q v d H2 (D1.trans D2) hv hd⟩
  refine ⟨_, rfl, rfl, _, rfl, ite2 (fun _ => ?_) (fun _ => ?_)⟩
  · exact ⟨_, rfl, _, rfl, go 6 4 3 3 (by decide) (by decide) (by decide) (by decide) (by decide) (by decide) (by decide)⟩
  refine ⟨_, rfl, rfl, _, rfl, ite2 (fun _ => ?_) (fun _ => ?_)⟩
  · exact ⟨_, rfl, _, rfl, go 4 3 2 4 (by decide) (by decide) (by decide) (by decide) (by decide) (by decide) (by decide)⟩
  refine ⟨_, rfl, rfl, _, rfl, ite2 (fun _ => ?_) (fun _ => ?_)⟩
  · exact ⟨_, rfl, _, rfl, go 3 2 3 2 (by decide) (by decide) (by decide) (by decide) (by decide) (by decide) (by decide)⟩
  · exact ⟨_, rfl, _, rfl, go 12 3 2 8 (by decide) (by decide) (by decide) (by decide) (by decide) (by decide) (by decide)⟩
end
end Aq
namespace Aq
open PySem PySem.Spec PyProof.Rows L2
/-- the arcs of a line in which every model may come -/
def freeArcs (n : Nat) : List (List Int) := (List.range n).map fun k : Nat => [(k : Int), 0]
theorem freeArcs_len (n : Nat) : (freeArcs n).length = n := by
  unfold freeArcs
  rw [List.length_map, List.length_range]
theorem freeArcs_at {n i : Nat} (h : i < n) : (freeArcs n)[i]? = some [(i : Int), 0] := by
  unfold freeArcs
  rw [List.getElem?_map, List.getElem?_range h]
  rfl
theorem freeArcs_ok {n : Nat} (h1 : 1 ≤ n) (h2 : n ≤ 8) : StateOk (n : Int) 1 (freeArcs n) := by
  refine ⟨by rw [freeArcs_len]; exact h1, by rw [freeArcs_len]; omega, fun t ht => ?_, ?_⟩
  · unfold freeArcs at ht
    obtain ⟨k, hk, rfl⟩ := List.mem_map.mp ht
    have := List.mem_range.mp hk
    exact ⟨_, _, rfl, by omega, by omega, by omega, by omega⟩
  · unfold freeArcs
    refine List.Pairwise.map (R := fun a b : Nat => a ≠ b) _ (fun a b hab e => hab ?_) List.nodup_range
    have e' : (a : Int) = (b : Int) := (List.cons.inj e).1
    omega
theorem lc_fa {K : PySem.W.Frag} {σ : L2.St} {H : Hp} {j n : Nat} {vs : List Nat} {ta : TA} {Q : VK} (ha : ∀ Q' : List V → Hp → Prop, Q' [.int (n : Int)] H → ta σ H Q') (hn : n ≤ 1000)
    (hw : ∀ x, wipe ((wipe σ vs).set j (some x)) vs = wipe σ vs) (hj : ∀ x, ((wipe σ vs).set j (some x))[j]? = some (some x))
    (q : ∀ D H', Same H H' → H D = none → (∃ acc, H' D = some (.lst acc) ∧ Paired (T1 K H') acc (freeArcs n)) → Q (.ref D) H') : tLc (iRng1 ta) (gName j) tYes (tTup (tCons (tVar j) (tCons (tC (.int 0)) tNil))) vs σ H Q := by
  refine ha _ ⟨_, rfl, by omega, by omega, fun D hD => lc_range (lo := 0) (n := n) (fun i H' => Same H H' ∧ ∃ acc, H' D = some (.lst acc) ∧ Paired (T1 K H') acc ((freeArcs n).take i)) ⟨grow hD, [], upd_same, .nil⟩ ?_ ?_⟩
  · rintro i H' hi ⟨sm, acc, eD, pa⟩
    have e0 : (0 : Int) + (i : Int) = (i : Int) := Int.zero_add _
    rw [e0]
    refine ⟨hw _, ?_⟩
    refine ⟨_, hj _, by show 2 ≤ sizeLine; decide, fun p np => ?_⟩
    have gp : Same H' (upd H' p (.tup [.int (i : Int), .int 0])) := grow np
    refine ⟨acc, gp _ _ eD, ?_, same_set (sm.trans gp) hD, acc ++ [.ref p], upd_same, ?_⟩
    · have h1 := pa.length
      rw [List.length_take, freeArcs_len] at h1
      exact small1000' (by omega)
    · rw [take_snoc (freeArcs_at hi)]
      have st : Stay K (upd H' p (.tup [.int (i : Int), .int 0])) (upd (upd H' p (.tup [.int (i : Int), .int 0])) D (.lst (acc ++ [.ref p]))) := stay_set (gp _ _ eD)
      have t1 : T1 K (upd H' p (.tup [.int (i : Int), .int 0])) (.ref p) [(i : Int), 0] := ⟨p, rfl, SqT.of upd_same, by show 2 ≤ 1000; decide⟩
      exact Pd.snoc (pd_stay ((Stay.same gp).trans st) pa) (t1.stay st)
  · rintro H' ⟨sm, acc, eD, pa⟩
    have et : (freeArcs n).take n = freeArcs n := List.take_of_length_le (by rw [freeArcs_len]; exact Nat.le_refl _)
    rw [et] at pa
    exact q D H' sm hD ⟨acc, eD, pa⟩
theorem rd_fa {K : PySem.W.Frag} {σ : L2.St} {H : Hp} {j n : Nat} {vs : List Nat} {ta : TA} {Q : VK} (ha : ∀ Q' : List V → Hp → Prop, Q' [.int (n : Int)] H → ta σ H Q') (hn : n ≤ 1000)
    (hw : ∀ x, wipe ((wipe σ vs).set j (some x)) vs = wipe σ vs) (hj : ∀ x, ((wipe σ vs).set j (some x))[j]? = some (some x)) (q : ∀ v H', Same H H' → T3 K H' v [freeArcs n] → Q v H') :
    tTup (tCons (tCB (rTO K) (tCons (tLc (iRng1 ta) (gName j) tYes (tTup (tCons (tVar j) (tCons (tC (.int 0)) tNil))) vs) tNil)) tNil) σ H Q :=
  lc_fa (K := K) (Q := fun v H2 => rTO K [v] H2 fun x H3 => [x].length ≤ sizeLine ∧ ∀ p, H3 p = none → Q (.ref p) (upd H3 p (.tup [x]))) ha hn hw hj fun D H3 s3 nD ⟨acc, eD, pD⟩ => by
    refine ⟨D, acc, rfl, .inl ⟨SqL.of eD, fun p1 n1 => ⟨by show 1 ≤ sizeLine; decide, fun p2 n2 => ?_⟩⟩⟩
    have g1 := grow n1 (o := .tup acc)
    have g2 := grow n2 (o := .tup [.ref p1])
    exact q _ _ (s3.trans (g1.trans g2)) ⟨p2, _, rfl, SqT.of upd_same, .cons ⟨p1, acc, rfl, SqT.of (g2 _ _ upd_same), pd_stay (Stay.same (g1.trans g2)) pD, by rw [freeArcs_len]; exact hn⟩ .nil, by show 1 ≤ 1000; decide⟩
/-- a sequence of 3 (deep) that is laid: [D], D a list of tuples -/
def spFree (K : PySem.W.Frag) (C : Addr) : Sp := fun vs H Q _ => ∃ t o m, ∃ d : LD, vs = [t, o, m, d.slips] ∧ SL K (SL K I0) H t d.tasks ∧ SL K (SL K I0) H o d.order ∧ SL K (SL K I0) H m d.models ∧ d.states = [freeArcs d.models.length] ∧ d.start = 0 ∧ LOk d ∧
  ∀ H' p, Same H H' → H p = none → LineAt K C H' p d → Q (.ref p) H'
structure Txf (K : PySem.W.Frag) (mg : Str → Option Value) : Prop where
  free : ∃ f fd, FunD K "free_line" "free_line" (defArgs s_free_line) (defBody s_free_line) (defScope s_free_line) [] [("slips", V.int 0)] f fd ∧ mg "free_line" = some (.ref f)
section
variable {P : Program} {w : World} {K : PySem.W.Frag} {mg : Str → Option Value} {base : Heap} {C : Addr}
theorem ok_free {f : Addr} {fd : FuncData} (F : FunD K "free_line" "free_line" (defArgs s_free_line) (defBody s_free_line) (defScope s_free_line) [] [("slips", V.int 0)] f fd) (X : Tx K mg C) : FnOk P w K mg base CX0 9 f fd ["tasks", "order", "models", "slips"] (spFree K C) := by
  have T := X.t
  have C_is_sequence : C8.Cal P w K mg base 1 "is_sequence" (spIsS K) [] := c_is_sequence T
  have MK_Line : MakK P w K mg base 7 "Line" C 5 ["slips"] (spInit K C) := mk_Line X
  refine F.ok sc_free_line (fun vs H Q E h => ?_) (fun cdv A outer s H vs Q E hr h => ?_)
  · obtain ⟨t, o, m, d, rfl, _⟩ := h
    rfl
  obtain ⟨t, o, m, d, rfl, ht, ho, hm, hst, hs0, O, q⟩ := h
  refine ⟨_, PSs.nox (pss_cons (ps_set (i := 4) sc_free_line.nd rfl (.inl rfl) (pe_ifExp (pt_val (C8.pe_c C_is_sequence hr (by omega) (by rfl) (pa_cons (pv 2) pa_nil))) (pe_callB call_len_seq (by rfl) T.z_len (by decide +kernel) (pa_cons (pv 2) pa_nil)) pe_int))
  (pss_cons (ps_setLc (i := 5) (own := [("model", 6)]) (g := gName 6) (by rfl) sc_free_line.nd rfl rfl (sw_true rfl rfl rfl (by decide +kernel)) (pi_range1 (by rfl) T.z_range (pa_cons (pv 4) pa_nil)) (blkOk_by (own := [("model", 6)]) (N := ["tasks", "order", "models", "slips", "many", "state", "model"]) (sc := defScope s_free_line) (by decide +kernel)) (fun _ _ _ _ _ => pg_name (i := 6) sc_free_line.nd rfl (Or.inl rfl)) (fun _ _ _ _ _ => pts_nil) (fun _ _ _ _ _ => (pe_tup (pa_cons (pv 6) (pa_cons pe_int pa_nil)))))
  (pss_one (ps_ret (pe_mkK MK_Line hr (by omega) (by rfl) (pa_cons (pv 0) (pa_cons (pv 1) (pa_cons (pv 2) (pa_cons (pe_lst (pa_cons (pv 5) pa_nil)) (pa_cons pe_int pa_nil))))) (pk_cons (pv 3) pk_nil)))))), ?_⟩
  have hm' := hm
  obtain ⟨a, xs, rfl, ha, pr, hz⟩ := hm'
  have hlen := pr.length
  refine ⟨_, rfl, _, some xs, rfl, ha.elim (fun z => .lst z) (fun z => .tup z), fun H1 s1 => ⟨_, rfl, iteT ?_⟩⟩
  refine ⟨_, rfl, a, xs, rfl, SqA.same s1 ha, ?_⟩
  -- state = [(model, 0) for model in range(many)]
  refine ⟨_, rfl, _, rfl, by omega, by have := O.m8; omega, fun D hD => lc_range (lo := 0) (n := xs.length) (fun i H' => Same H1 H' ∧ ∃ acc, H' D = some (.lst acc) ∧ Paired (T1 K H') acc ((freeArcs xs.length).take i)) ⟨grow hD, [], upd_same, .nil⟩ ?_ ?_⟩
  · rintro i H' hi ⟨sm, acc, eD, pa⟩
    have e0 : (0 : Int) + (i : Int) = (i : Int) := Int.zero_add _
    rw [e0]
    refine ⟨rfl, ?_⟩
    refine ⟨_, rfl, by show 2 ≤ sizeLine; decide, fun p np => ?_⟩
    have gp : Same H' (upd H' p (.tup [.int (i : Int), .int 0])) := grow np
    refine ⟨acc, gp _ _ eD, ?_, same_set (sm.trans gp) hD, acc ++ [.ref p], upd_same, ?_⟩
    · have h1 := pa.length
      rw [List.length_take, freeArcs_len] at h1
      have := O.m8
      exact small1000' (by omega)
    · rw [take_snoc (freeArcs_at hi)]
      have st : Stay K (upd H' p (.tup [.int (i : Int), .int 0])) (upd (upd H' p (.tup [.int (i : Int), .int 0])) D (.lst (acc ++ [.ref p]))) := stay_set (gp _ _ eD)
      have t1 : T1 K (upd H' p (.tup [.int (i : Int), .int 0])) (.ref p) [(i : Int), 0] := ⟨p, rfl, SqT.of upd_same, by show 2 ≤ 1000; decide⟩
      exact Pd.snoc (pd_stay ((Stay.same gp).trans st) pa) (t1.stay st)
  · rintro H' ⟨sm, acc, eD, pa⟩
    have et : (freeArcs xs.length).take xs.length = freeArcs xs.length := List.take_of_length_le (by rw [freeArcs_len]; exact Nat.le_refl _)
    rw [et] at pa
    have s2 := s1.trans sm
    -- Line(tasks, order, models, [state], 0, slips=slips)
    refine ⟨_, rfl, _, rfl, _, rfl, _, rfl, by show 1 ≤ sizeLine; decide, fun l nl => ?_⟩
    have gl : Same H' (upd H' l (.lst [.ref D])) := grow nl
    have s3 := s2.trans gl
    have sS : SL K (SL K (SL K I0)) (upd H' l (.lst [.ref D])) (.ref l) d.states := by
      rw [hst, ← hlen]
      have z : xs.length ≤ 8 := by have := O.m8; omega
      refine ⟨l, _, rfl, .inl (SqL.of upd_same), .cons ⟨D, acc, rfl, .inl (SqL.of (gl _ _ eD)), pd_sl (pd_stay (Stay.same gl) pa), by rw [freeArcs_len]; omega⟩ .nil, by show 1 ≤ 1000; decide⟩
    refine ⟨_, rfl, rfl, rfl, fun x dx nx ndx ne => ?_⟩
    have gd : Same (upd H' l (.lst [.ref D])) (upd (upd (upd H' l (.lst [.ref D])) dx (.own x)) x (.ins C dx [])) := fun b u e => by
      rw [upd_ne (ne_of_none e nx), upd_ne (ne_of_none e ndx)]
      exact e
    have s4 := s3.trans gd
    have I : LIn K (upd (upd (upd H' l (.lst [.ref D])) dx (.own x)) x (.ins C dx [])) t o (.ref a) (.ref l) d :=
      ⟨SL.mono (SL.mono I0.mono) _ _ _ _ s4 ht, SL.mono (SL.mono I0.mono) _ _ _ _ s4 ho, SL.mono (SL.mono I0.mono) _ _ _ _ s4 hm, SL.mono (SL.mono (SL.mono I0.mono)) _ _ _ _ gd sS⟩
    have nx' : H x = none := s3.free nx
    refine ⟨x, dx, t, o, .ref a, .ref l, d, by rw [hs0]; rfl, upd_same, I, O, fun H9 keep hL => ⟨rfl, q H9 x (fun b u e => ?_) nx' hL⟩⟩
    exact keep _ _ (ne_of_none e nx') (s4 _ _ e)
end
end Aq
namespace Aq
open PySem PySem.Spec PyProof.Rows L2
def spLaw (K : PySem.W.Frag) : Sp := fun vs H Q _ => ∃ (a : Addr) (ns : List Int), vs = [.ref a] ∧ SqL K H a (ns.map V.int) ∧ ns.length ≤ 63 ∧ ∀ H', Q (.bl true) H'
section
variable {P : Program} {w : World} {K : PySem.W.Frag} {mg : Str → Option Value} {base : Heap} {C : Addr}
theorem ck_free (X : Tx K mg C) (Y : Txf K mg) : CalK P w K mg base 9 "free_line" 3 ["slips"] (spFree K C) := by
  obtain ⟨f, fd, F, g⟩ := Y.free
  obtain ⟨mv, b⟩ := F.kbinds0 (ps := ["tasks", "order", "models", "slips"]) 3 ["slips"] [] (fun us _ ws => us ++ ws) (by simp) (by simp) (fun r1 _ r3 => r1.append r3)
    (fun D doc pm an cdv ct us mv ws h1 h2 h3 => match us, mv, ws, h1, h2, h3 with | [_, _, _], [], [_], _, _, _ => rfl)
  exact ⟨f, fd, _, _, ok_free F X, g, F.kp, b⟩
theorem c_free (X : Tx K mg C) (Y : Txf K mg) : C8.Cal P w K mg base 9 "free_line" (spFree K C) [.int 0] := by
  obtain ⟨f, fd, F, g⟩ := Y.free
  obtain ⟨ds, v, b⟩ := F.binds0 (ps := ["tasks", "order", "models", "slips"]) 3 (by simp) rfl
    (fun D doc pm an cdv ct us ks h1 h2 => match us, ks, h1, h2 with | [_, _, _], [_], _, _ => ⟨_, _, _, _, _, _, rfl, rfl, rfl⟩)
  exact ⟨f, fd, _, ds, ok_free F X, g, F.kp, b, v⟩
theorem ok_law {f : Addr} {fd : FuncData} (F : Fun K "law" "law" s_law f fd) (X : Tx K mg C) (Y : Txf K mg) : FnOk P w K mg base CX0 10 f fd ["script"] (spLaw K) := by
  have T := X.t
  have C__law_numbers : C8.Cal P w K mg base 1 "_law_numbers" (spNumbers K) [] := c_numbers T
  have C__law_case : C8.Cal P w K mg base 7 "_law_case" (spCase K) [] := c_case T
  have C__law_loose : C8.Cal P w K mg base 3 "_law_loose" (spLo (TL K (TL K I0)) (SL K (SL K I0)) Lnew) [] := c_loose2 T
  have C__law_same : C8.Cal P w K mg base 5 "_law_same" (spSame K C) [] := c_same X
  have CK_free_line : CalK P w K mg base 9 "free_line" 3 ["slips"] (spFree K C) := ck_free X Y
  have C_free_line : C8.Cal P w K mg base 9 "free_line" (spFree K C) [.int 0] := c_free X Y
  refine F.ok sc_law (fun vs H Q E h => ?_) (fun cdv A outer s H vs Q E hr h => ?_)
  · obtain ⟨a, ns, rfl, _⟩ := h
    rfl
  obtain ⟨a, ns, rfl, hS, hl, q⟩ := h
  refine ⟨_, (pss_cons (ps_set (i := 1) sc_law.nd rfl (.inl rfl) (C8.pe_c C__law_numbers hr (by omega) (by rfl) (pa_cons (pv 0) pa_nil)))
  (pss_cons (ps_set (i := 2) sc_law.nd rfl (.inl rfl) (pe_lst (pa_cons pe_int pa_nil)))
  (pss_cons (ps_set (i := 3) sc_law.nd rfl (.inl rfl) (C8.pe_c C__law_case hr (by omega) (by rfl) (pa_cons (pv 1) (pa_cons (pv 2) pa_nil))))
  (pss_cons (ps_set (i := 4) sc_law.nd rfl (.inl rfl) (pe_tup (pa_cons (pe_callTy call_tuple_of (by rfl) T.z_tuple (by decide +kernel) (pa_cons (pe_lc (own := [("k", 6)]) (g := gName 6) (by rfl) sc_law.nd (pi_range1 (by rfl) T.z_range (pa_cons (pe_callB call_len_seq (by rfl) T.z_len (by decide +kernel) (pa_cons (pe_ix ix_tup (pv 3) pe_int (fun _ _ => rfl)) pa_nil)) pa_nil)) (blkOk_by (own := [("k", 6)]) (N := ["script", "row", "spot", "line", "states", "told", "k"]) (sc := defScope s_law) (by decide +kernel)) (fun _ _ _ _ _ => pg_name (i := 6) sc_law.nd rfl (Or.inl rfl)) (fun _ _ _ _ _ => pts_nil) (fun _ _ _ _ _ => (pe_tup (pa_cons (pv 6) (pa_cons pe_int pa_nil))))) pa_nil)) pa_nil)))
  (pss_cons (ps_set (i := 5) sc_law.nd rfl (.inl rfl) (pe_ck CK_free_line hr (by omega) (by rfl) (pa_cons (C8.pe_c C__law_loose hr (by omega) (by rfl) (pa_cons (pe_ix ix_tup (pv 3) pe_int (fun _ _ => rfl)) (pa_cons pe_int pa_nil))) (pa_cons (C8.pe_c C__law_loose hr (by omega) (by rfl) (pa_cons (pe_ix ix_tup (pv 3) pe_int (fun _ _ => rfl)) (pa_cons pe_int pa_nil))) (pa_cons (C8.pe_c C__law_loose hr (by omega) (by rfl) (pa_cons (pe_ix ix_tup (pv 3) pe_int (fun _ _ => rfl)) (pa_cons pe_int pa_nil))) pa_nil))) (pk_cons (pe_ix ix_tup (pv 3) pe_int (fun _ _ => rfl)) pk_nil)))
  (pss_cons (ps_if (pt_not (pt_val (C8.pe_c C__law_same hr (by omega) (by rfl) (pa_cons (pv 5) (pa_cons (pe_tup (pa_cons (pe_ix ix_tup (pv 3) pe_int (fun _ _ => rfl)) (pa_cons (pe_ix ix_tup (pv 3) pe_int (fun _ _ => rfl)) (pa_cons (pe_ix ix_tup (pv 3) pe_int (fun _ _ => rfl)) (pa_cons (pv 4) (pa_cons pe_int (pa_cons (pe_ix ix_tup (pv 3) pe_int (fun _ _ => rfl)) pa_nil))))))) pa_nil)))))
    (pss_one (ps_ret pe_bl))
    pss_nil)
  (pss_one (ps_ret (C8.pe_c C__law_same hr (by omega) (by rfl) (pa_cons (C8.pe_c C_free_line hr (by omega) (by rfl) (pa_cons (pe_ix ix_tup (pv 3) pe_int (fun _ _ => rfl)) (pa_cons (pe_ix ix_tup (pv 3) pe_int (fun _ _ => rfl)) (pa_cons (pe_ix ix_tup (pv 3) pe_int (fun _ _ => rfl)) pa_nil)))) (pa_cons (pe_tup (pa_cons (pe_ix ix_tup (pv 3) pe_int (fun _ _ => rfl)) (pa_cons (pe_ix ix_tup (pv 3) pe_int (fun _ _ => rfl)) (pa_cons (pe_ix ix_tup (pv 3) pe_int (fun _ _ => rfl)) (pa_cons (pv 4) (pa_cons pe_int (pa_cons pe_int pa_nil))))))) pa_nil))))))))))), ?_⟩
  -- row, spot, line
  refine ⟨_, rfl, a, ns, rfl, hS, hl, fun p H1 s1 np hR => ?_⟩
  refine ⟨by show 1 ≤ sizeLine; decide, fun sp nsp => ?_⟩
  have gs := grow nsp (o := .lst [.int 0])
  have R : RS (upd H1 sp (.lst [.int 0])) p sp := by
    obtain ⟨ms, e, h1, h2⟩ := hR
    exact ⟨⟨ms, gs _ _ e, h1, h2⟩, ⟨0, Int.le_refl _, upd_same⟩, ne_of_none e nsp⟩
  refine ⟨_, rfl, _, rfl, p, sp, rfl, R, fun v d H2 D2 hv O => ?_⟩
  obtain ⟨L, v1, v2, v3, v4, rfl, tL, h1, h2, h3, h4⟩ := hv
  have h3' := h3
  obtain ⟨M, xs, rfl, tM, pM, zM⟩ := h3'
  have lM : xs.length = d.models.length := pM.length
  -- states
  have O8 := O.m8
  dsimp only [gName, tSeq, tAsg]
  show tTup (tCons (tCB (rTO K) (tCons (tLc (iRng1 _) (gName 6) tYes (tTup (tCons (tVar 6) (tCons (tC (.int 0)) tNil))) [6]) tNil)) tNil) _ _ _
  refine rd_fa (K := K) (n := d.models.length) (fun Q' q' => ⟨_, rfl, L, _, _, _, rfl, rfl, tL, atI_nat (j := 2) rfl, M, xs, rfl, .inr tM, by rw [lM]; exact q'⟩) (by omega) (fun x => rfl) (fun x => rfl) fun v5 H4 s4 hst => ?_
  obtain ⟨p2, xp2, rfl, hst'⟩ := id hst
  have S4 := Stay.same (K := K) s4
  -- told
  have tL4 := S4 _ _ tL
  refine ⟨_, rfl, L, _, _, _, rfl, rfl, tL4, atI_nat (j := 0) rfl, _, d.tasks, 0, rfl, (h1.stay S4).tl, fun w1 H5 s5 hw1 _ => ?_⟩
  have S5 := Stay.same (K := K) s5
  refine ⟨_, rfl, L, _, _, _, rfl, rfl, S5 _ _ tL4, atI_nat (j := 1) rfl, _, d.order, 1, rfl, (h2.stay (S4.trans S5)).tl, fun w2 H6 s6 hw2 _ => ?_⟩
  have S6 := Stay.same (K := K) s6
  refine ⟨_, rfl, L, _, _, _, rfl, rfl, S6 _ _ (S5 _ _ tL4), atI_nat (j := 2) rfl, _, d.models, 0, rfl, (h3.stay ((S4.trans S5).trans S6)).tl, fun w3 H7 s7 hw3 _ => ?_⟩
  have S7 := Stay.same (K := K) s7
  have m2 : Mono (SL K (SL K I0)) := SL.mono (SL.mono I0.mono)
  have tL7 := S7 _ _ (S6 _ _ (S5 _ _ tL4))
  refine ⟨_, rfl, L, _, _, _, rfl, rfl, tL7, atI_nat (j := 5) rfl, rfl, rfl, ?_⟩
  have O' : LOk ⟨d.tasks, d.order, d.models, [freeArcs d.models.length], 0, d.slips⟩ :=
    { t0 := O.t0, t24 := O.t24, tok := O.tok, o200 := O.o200, ook := O.ook, ond := O.ond, m0 := O.m0, m8 := O.m8, mok := O.mok, s0 := by simp, s60 := by show 1 ≤ 60; decide
      sok := fun s hs => by
        rw [List.mem_singleton.mp hs]
        exact freeArcs_ok (List.length_pos_iff.mpr O.m0) O.m8
      st0 := Int.le_refl _, st1 := by show (0 : Int) < ((1 : Nat) : Int); decide, sl := O.sl, sv := O.sv }
  refine ⟨w1, w2, w3, ⟨d.tasks, d.order, d.models, [freeArcs d.models.length], 0, d.slips⟩, rfl, m2 _ _ _ _ (New.le.trans (s6.trans s7)) hw1, m2 _ _ _ _ (New.le.trans s7) hw2, m2 _ _ _ _ New.le hw3, rfl, rfl, O', fun H8 x s8 nx hL => ?_⟩
  have S8 := Stay.same (K := K) s8
  have tL8 := S8 _ _ tL7
  have S48 := ((S4.trans S5).trans S6).trans (S7.trans S8)
  have hst8 := hst.stay (((S5.trans S6).trans S7).trans S8)
  -- _law_same(told, (..))
  refine ⟨_, rfl, ?_⟩
  refine ⟨_, rfl, L, _, _, _, rfl, rfl, tL8, atI_nat (j := 0) rfl, _, rfl, L, _, _, _, rfl, rfl, tL8, atI_nat (j := 1) rfl, _, rfl, L, _, _, _, rfl, rfl, tL8, atI_nat (j := 2) rfl, _, rfl, _, rfl, L, _, _, _, rfl, rfl, tL8, atI_nat (j := 5) rfl, by show 6 ≤ sizeLine; decide, fun u nu => ?_⟩
  have gu := grow nu (o := .tup [v1, v2, .ref M, .ref p2, .int 0, d.slips])
  have Su := Stay.same (K := K) gu
  refine ⟨x, .ref u, ⟨d.tasks, d.order, d.models, [freeArcs d.models.length], 0, d.slips⟩, rfl, hL.same gu, ⟨u, v1, v2, .ref M, .ref p2, rfl, SqT.of upd_same, h1.stay (S48.trans Su), h2.stay (S48.trans Su), h3.stay (S48.trans Su), hst8.stay Su⟩, O.sv, _, rfl, iteF ?_⟩
  -- the second
  have tLu := Su _ _ tL8
  have S4u := S48.trans Su
  refine ⟨_, rfl, L, _, _, _, rfl, rfl, tLu, atI_nat (j := 0) rfl, _, rfl, L, _, _, _, rfl, rfl, tLu, atI_nat (j := 1) rfl, _, rfl, L, _, _, _, rfl, rfl, tLu, atI_nat (j := 2) rfl, ?_⟩
  have O'' : LOk ⟨d.tasks, d.order, d.models, [freeArcs d.models.length], 0, .int 0⟩ := { O' with sl := rfl, sv := .inr ⟨0, rfl⟩ }
  refine ⟨v1, v2, .ref M, ⟨d.tasks, d.order, d.models, [freeArcs d.models.length], 0, .int 0⟩, rfl, (h1.stay S4u).sl, (h2.stay S4u).sl, (h3.stay S4u).sl, rfl, rfl, O'', fun H9 x' s9 nx' hL' => ?_⟩
  have S9 := Stay.same (K := K) s9
  have tL9 := S9 _ _ tLu
  refine ⟨_, rfl, L, _, _, _, rfl, rfl, tL9, atI_nat (j := 0) rfl, _, rfl, L, _, _, _, rfl, rfl, tL9, atI_nat (j := 1) rfl, _, rfl, L, _, _, _, rfl, rfl, tL9, atI_nat (j := 2) rfl, _, rfl, by show 6 ≤ sizeLine; decide, fun u' nu' => ?_⟩
  have gu' := grow nu' (o := .tup [v1, v2, .ref M, .ref p2, .int 0, .int 0])
  have Su' := Stay.same (K := K) gu'
  exact ⟨x', .ref u', ⟨d.tasks, d.order, d.models, [freeArcs d.models.length], 0, .int 0⟩, rfl, hL'.same gu', ⟨u', v1, v2, .ref M, .ref p2, rfl, SqT.of upd_same, h1.stay ((S4u.trans S9).trans Su'), h2.stay ((S4u.trans S9).trans Su'), h3.stay ((S4u.trans S9).trans Su'), hst8.stay ((Su.trans S9).trans Su')⟩, .inr ⟨0, rfl⟩, q _⟩
end
end Aq
namespace Aq
open PySem PySem.Spec PyProof.Rows L2
set_option maxHeartbeats 4000000 in
theorem all_mk {P : Program} {w : World} {K : PySem.W.Frag} {h : Heap} {mg : Str → Option Value} {fa : Addr} (X : K.In h) (G : h.Ns mainGlobals mg) (hfa : mg "law" = some (.ref fa))
    {f1 : Addr} {od1 an1 : Option Addr} {sl1 : Array (Option Value)} {oc1 dc1 pm1 cd1 ct1 kV1 : Value}
    {f2 : Addr} {od2 an2 : Option Addr} {sl2 : Array (Option Value)} {oc2 dc2 pm2 cd2 ct2 kV2 : Value}
    {f3 : Addr} {od3 an3 : Option Addr} {sl3 : Array (Option Value)} {oc3 dc3 pm3 cd3 ct3 kV3 : Value}
    {f4 : Addr} {od4 an4 : Option Addr} {sl4 : Array (Option Value)} {oc4 dc4 pm4 cd4 ct4 kV4 : Value}
    {f5 : Addr} {od5 an5 : Option Addr} {sl5 : Array (Option Value)} {oc5 dc5 pm5 cd5 ct5 kV5 : Value}
    {f6 : Addr} {od6 an6 : Option Addr} {sl6 : Array (Option Value)} {oc6 dc6 pm6 cd6 ct6 kV6 : Value}
    {f7 : Addr} {od7 an7 : Option Addr} {sl7 : Array (Option Value)} {oc7 dc7 pm7 cd7 ct7 kV7 : Value}
    {f8 : Addr} {od8 an8 : Option Addr} {sl8 : Array (Option Value)} {oc8 dc8 pm8 cd8 ct8 kV8 : Value}
    {f9 : Addr} {od9 an9 : Option Addr} {sl9 : Array (Option Value)} {oc9 dc9 pm9 cd9 ct9 kV9 : Value}
    {f10 : Addr} {od10 an10 : Option Addr} {sl10 : Array (Option Value)} {oc10 dc10 pm10 cd10 ct10 kV10 : Value}
    {f11 : Addr} {od11 an11 : Option Addr} {sl11 : Array (Option Value)} {oc11 dc11 pm11 cd11 ct11 kV11 : Value}
    {f12 : Addr} {od12 an12 : Option Addr} {sl12 : Array (Option Value)} {oc12 dc12 pm12 cd12 ct12 kV12 : Value}
    {f13 : Addr} {od13 an13 : Option Addr} {sl13 : Array (Option Value)} {oc13 dc13 pm13 cd13 ct13 kV13 : Value}
    {f14 : Addr} {od14 an14 : Option Addr} {sl14 : Array (Option Value)} {oc14 dc14 pm14 cd14 ct14 kV14 : Value}
    {f15 : Addr} {od15 an15 : Option Addr} {sl15 : Array (Option Value)} {oc15 dc15 pm15 cd15 ct15 kV15 : Value}
    {f16 : Addr} {od16 an16 : Option Addr} {sl16 : Array (Option Value)} {oc16 dc16 pm16 cd16 ct16 kV16 : Value}
    {f17 : Addr} {od17 an17 : Option Addr} {sl17 : Array (Option Value)} {oc17 dc17 pm17 cd17 ct17 kV17 : Value}
    {f18 : Addr} {od18 an18 : Option Addr} {sl18 : Array (Option Value)} {oc18 dc18 pm18 cd18 ct18 kV18 : Value}
    {f19 : Addr} {od19 an19 : Option Addr} {sl19 : Array (Option Value)} {oc19 dc19 pm19 cd19 ct19 kV19 : Value}
    {f20 : Addr} {od20 an20 : Option Addr} {sl20 : Array (Option Value)} {oc20 dc20 pm20 cd20 ct20 kV20 : Value}
    {f21 : Addr} {od21 an21 : Option Addr} {sl21 : Array (Option Value)} {oc21 dc21 pm21 cd21 ct21 kV21 : Value}
    {f22 : Addr} {od22 an22 : Option Addr} {sl22 : Array (Option Value)} {oc22 dc22 pm22 cd22 ct22 kV22 : Value}
    {f23 : Addr} {od23 an23 : Option Addr} {sl23 : Array (Option Value)} {oc23 dc23 pm23 cd23 ct23 kV23 : Value}
    {f24 : Addr} {od24 an24 : Option Addr} {sl24 : Array (Option Value)} {oc24 dc24 pm24 cd24 ct24 kV24 : Value}
    {f25 : Addr} {od25 an25 : Option Addr} {sl25 : Array (Option Value)} {oc25 dc25 pm25 cd25 ct25 kV25 : Value}
    {f26 : Addr} {od26 an26 : Option Addr} {sl26 : Array (Option Value)} {oc26 dc26 pm26 cd26 ct26 kV26 : Value}
    {f27 : Addr} {od27 an27 : Option Addr} {sl27 : Array (Option Value)} {oc27 dc27 pm27 cd27 ct27 kV27 : Value}
    {f28 : Addr} {od28 an28 : Option Addr} {sl28 : Array (Option Value)} {oc28 dc28 pm28 cd28 ct28 kV28 : Value}
    {f29 : Addr} {od29 an29 : Option Addr} {sl29 : Array (Option Value)} {oc29 dc29 pm29 cd29 ct29 kV29 : Value}
    {f30 : Addr} {od30 an30 : Option Addr} {sl30 : Array (Option Value)} {oc30 dc30 pm30 cd30 ct30 kV30 : Value}
    {f31 : Addr} {od31 an31 : Option Addr} {sl31 : Array (Option Value)} {oc31 dc31 pm31 cd31 ct31 kV31 : Value}
    {t_MOST_TASKS : _}
    {t_MOST_TIME : _}
    {t_MOST_PAIRS : _}
    {t_MOST_MODELS : _}
    {t_MOST_STATES : _}
    {t_MOST_ARCS : _}
    {t_MOST_SLIPS : _}
    {C : Addr}
    {fI : Addr} {odI anI : Option Addr} {slI : Array (Option Value)} {ocI dcI pmI cdI ctI : Value} {DI : Addr} {tI : _}
    {fPtasks : Addr} {odPtasks anPtasks : Option Addr} {slPtasks : Array (Option Value)} {ocPtasks dcPtasks pmPtasks cdPtasks ctPtasks kVPtasks : Value} {pPtasks : Addr} {rPtasks : List Value}
    {fPorder : Addr} {odPorder anPorder : Option Addr} {slPorder : Array (Option Value)} {ocPorder dcPorder pmPorder cdPorder ctPorder kVPorder : Value} {pPorder : Addr} {rPorder : List Value}
    {fPmodels : Addr} {odPmodels anPmodels : Option Addr} {slPmodels : Array (Option Value)} {ocPmodels dcPmodels pmPmodels cdPmodels ctPmodels kVPmodels : Value} {pPmodels : Addr} {rPmodels : List Value}
    {fPstates : Addr} {odPstates anPstates : Option Addr} {slPstates : Array (Option Value)} {ocPstates dcPstates pmPstates cdPstates ctPstates kVPstates : Value} {pPstates : Addr} {rPstates : List Value}
    {fPstart : Addr} {odPstart anPstart : Option Addr} {slPstart : Array (Option Value)} {ocPstart dcPstart pmPstart cdPstart ctPstart kVPstart : Value} {pPstart : Addr} {rPstart : List Value}
    {fPslips : Addr} {odPslips anPslips : Option Addr} {slPslips : Array (Option Value)} {ocPslips dcPslips pmPslips cdPslips ctPslips kVPslips : Value} {pPslips : Addr} {rPslips : List Value}
    {fF : Addr} {odF anF : Option Addr} {slF : Array (Option Value)} {ocF dcF pmF cdF ctF : Value} {DF : Addr} {tF : _}
    {fL : Addr} {odL anL : Option Addr} {slL : Array (Option Value)} {ocL dcL pmL cdL ctL kVL : Value}
    (a1 : PySem.W.nsIn K mainGlobals "_law_so" = some (some (.ref f1)))
    (l1 : K.lookup f1 = some ⟨oc1, od1, .func (PySem.W.fnOf "_law_so" "_law_so" (defArgs s__law_so) (defBody s__law_so) (defScope s__law_so) .none kV1 dc1 pm1 an1 cd1 ct1), sl1⟩)
    (c1 : PySem.W.codeIn K cd1 "_law_so" = true)
    (k1 : PySem.W.keepIn K (.ref f1) = true)
    (a2 : PySem.W.nsIn K mainGlobals "_law_numbers" = some (some (.ref f2)))
    (l2 : K.lookup f2 = some ⟨oc2, od2, .func (PySem.W.fnOf "_law_numbers" "_law_numbers" (defArgs s__law_numbers) (defBody s__law_numbers) (defScope s__law_numbers) .none kV2 dc2 pm2 an2 cd2 ct2), sl2⟩)
    (c2 : PySem.W.codeIn K cd2 "_law_numbers" = true)
    (k2 : PySem.W.keepIn K (.ref f2) = true)
    (a3 : PySem.W.nsIn K mainGlobals "_law_draw" = some (some (.ref f3)))
    (l3 : K.lookup f3 = some ⟨oc3, od3, .func (PySem.W.fnOf "_law_draw" "_law_draw" (defArgs s__law_draw) (defBody s__law_draw) (defScope s__law_draw) .none kV3 dc3 pm3 an3 cd3 ct3), sl3⟩)
    (c3 : PySem.W.codeIn K cd3 "_law_draw" = true)
    (k3 : PySem.W.keepIn K (.ref f3) = true)
    (a4 : PySem.W.nsIn K mainGlobals "_law_take" = some (some (.ref f4)))
    (l4 : K.lookup f4 = some ⟨oc4, od4, .func (PySem.W.fnOf "_law_take" "_law_take" (defArgs s__law_take) (defBody s__law_take) (defScope s__law_take) .none kV4 dc4 pm4 an4 cd4 ct4), sl4⟩)
    (c4 : PySem.W.codeIn K cd4 "_law_take" = true)
    (k4 : PySem.W.keepIn K (.ref f4) = true)
    (a5 : PySem.W.nsIn K mainGlobals "_law_loose" = some (some (.ref f5)))
    (l5 : K.lookup f5 = some ⟨oc5, od5, .func (PySem.W.fnOf "_law_loose" "_law_loose" (defArgs s__law_loose) (defBody s__law_loose) (defScope s__law_loose) .none kV5 dc5 pm5 an5 cd5 ct5), sl5⟩)
    (c5 : PySem.W.codeIn K cd5 "_law_loose" = true)
    (k5 : PySem.W.keepIn K (.ref f5) = true)
    (a6 : PySem.W.nsIn K mainGlobals "_law_mixed" = some (some (.ref f6)))
    (l6 : K.lookup f6 = some ⟨oc6, od6, .func (PySem.W.fnOf "_law_mixed" "_law_mixed" (defArgs s__law_mixed) (defBody s__law_mixed) (defScope s__law_mixed) .none kV6 dc6 pm6 an6 cd6 ct6), sl6⟩)
    (c6 : PySem.W.codeIn K cd6 "_law_mixed" = true)
    (k6 : PySem.W.keepIn K (.ref f6) = true)
    (a7 : PySem.W.nsIn K mainGlobals "_law_time" = some (some (.ref f7)))
    (l7 : K.lookup f7 = some ⟨oc7, od7, .func (PySem.W.fnOf "_law_time" "_law_time" (defArgs s__law_time) (defBody s__law_time) (defScope s__law_time) .none kV7 dc7 pm7 an7 cd7 ct7), sl7⟩)
    (c7 : PySem.W.codeIn K cd7 "_law_time" = true)
    (k7 : PySem.W.keepIn K (.ref f7) = true)
    (a8 : PySem.W.nsIn K mainGlobals "_law_task" = some (some (.ref f8)))
    (l8 : K.lookup f8 = some ⟨oc8, od8, .func (PySem.W.fnOf "_law_task" "_law_task" (defArgs s__law_task) (defBody s__law_task) (defScope s__law_task) .none kV8 dc8 pm8 an8 cd8 ct8), sl8⟩)
    (c8 : PySem.W.codeIn K cd8 "_law_task" = true)
    (k8 : PySem.W.keepIn K (.ref f8) = true)
    (a9 : PySem.W.nsIn K mainGlobals "_law_pairs_of" = some (some (.ref f9)))
    (l9 : K.lookup f9 = some ⟨oc9, od9, .func (PySem.W.fnOf "_law_pairs_of" "_law_pairs_of" (defArgs s__law_pairs_of) (defBody s__law_pairs_of) (defScope s__law_pairs_of) .none kV9 dc9 pm9 an9 cd9 ct9), sl9⟩)
    (c9 : PySem.W.codeIn K cd9 "_law_pairs_of" = true)
    (k9 : PySem.W.keepIn K (.ref f9) = true)
    (a10 : PySem.W.nsIn K mainGlobals "_law_model" = some (some (.ref f10)))
    (l10 : K.lookup f10 = some ⟨oc10, od10, .func (PySem.W.fnOf "_law_model" "_law_model" (defArgs s__law_model) (defBody s__law_model) (defScope s__law_model) .none kV10 dc10 pm10 an10 cd10 ct10), sl10⟩)
    (c10 : PySem.W.codeIn K cd10 "_law_model" = true)
    (k10 : PySem.W.keepIn K (.ref f10) = true)
    (a11 : PySem.W.nsIn K mainGlobals "_law_states" = some (some (.ref f11)))
    (l11 : K.lookup f11 = some ⟨oc11, od11, .func (PySem.W.fnOf "_law_states" "_law_states" (defArgs s__law_states) (defBody s__law_states) (defScope s__law_states) .none kV11 dc11 pm11 an11 cd11 ct11), sl11⟩)
    (c11 : PySem.W.codeIn K cd11 "_law_states" = true)
    (k11 : PySem.W.keepIn K (.ref f11) = true)
    (a12 : PySem.W.nsIn K mainGlobals "_law_line" = some (some (.ref f12)))
    (l12 : K.lookup f12 = some ⟨oc12, od12, .func (PySem.W.fnOf "_law_line" "_law_line" (defArgs s__law_line) (defBody s__law_line) (defScope s__law_line) .none kV12 dc12 pm12 an12 cd12 ct12), sl12⟩)
    (c12 : PySem.W.codeIn K cd12 "_law_line" = true)
    (k12 : PySem.W.keepIn K (.ref f12) = true)
    (a13 : PySem.W.nsIn K mainGlobals "_law_same" = some (some (.ref f13)))
    (l13 : K.lookup f13 = some ⟨oc13, od13, .func (PySem.W.fnOf "_law_same" "_law_same" (defArgs s__law_same) (defBody s__law_same) (defScope s__law_same) .none kV13 dc13 pm13 an13 cd13 ct13), sl13⟩)
    (c13 : PySem.W.codeIn K cd13 "_law_same" = true)
    (k13 : PySem.W.keepIn K (.ref f13) = true)
    (a14 : PySem.W.nsIn K mainGlobals "_law_case" = some (some (.ref f14)))
    (l14 : K.lookup f14 = some ⟨oc14, od14, .func (PySem.W.fnOf "_law_case" "_law_case" (defArgs s__law_case) (defBody s__law_case) (defScope s__law_case) .none kV14 dc14 pm14 an14 cd14 ct14), sl14⟩)
    (c14 : PySem.W.codeIn K cd14 "_law_case" = true)
    (k14 : PySem.W.keepIn K (.ref f14) = true)
    (a15 : PySem.W.nsIn K mainGlobals "is_integer" = some (some (.ref f15)))
    (l15 : K.lookup f15 = some ⟨oc15, od15, .func (PySem.W.fnOf "is_integer" "is_integer" (defArgs s_is_integer) (defBody s_is_integer) (defScope s_is_integer) .none kV15 dc15 pm15 an15 cd15 ct15), sl15⟩)
    (c15 : PySem.W.codeIn K cd15 "is_integer" = true)
    (k15 : PySem.W.keepIn K (.ref f15) = true)
    (a16 : PySem.W.nsIn K mainGlobals "is_within" = some (some (.ref f16)))
    (l16 : K.lookup f16 = some ⟨oc16, od16, .func (PySem.W.fnOf "is_within" "is_within" (defArgs s_is_within) (defBody s_is_within) (defScope s_is_within) .none kV16 dc16 pm16 an16 cd16 ct16), sl16⟩)
    (c16 : PySem.W.codeIn K cd16 "is_within" = true)
    (k16 : PySem.W.keepIn K (.ref f16) = true)
    (a17 : PySem.W.nsIn K mainGlobals "is_sequence" = some (some (.ref f17)))
    (l17 : K.lookup f17 = some ⟨oc17, od17, .func (PySem.W.fnOf "is_sequence" "is_sequence" (defArgs s_is_sequence) (defBody s_is_sequence) (defScope s_is_sequence) .none kV17 dc17 pm17 an17 cd17 ct17), sl17⟩)
    (c17 : PySem.W.codeIn K cd17 "is_sequence" = true)
    (k17 : PySem.W.keepIn K (.ref f17) = true)
    (a18 : PySem.W.nsIn K mainGlobals "has_length" = some (some (.ref f18)))
    (l18 : K.lookup f18 = some ⟨oc18, od18, .func (PySem.W.fnOf "has_length" "has_length" (defArgs s_has_length) (defBody s_has_length) (defScope s_has_length) .none kV18 dc18 pm18 an18 cd18 ct18), sl18⟩)
    (c18 : PySem.W.codeIn K cd18 "has_length" = true)
    (k18 : PySem.W.keepIn K (.ref f18) = true)
    (a19 : PySem.W.nsIn K mainGlobals "are_within" = some (some (.ref f19)))
    (l19 : K.lookup f19 = some ⟨oc19, od19, .func (PySem.W.fnOf "are_within" "are_within" (defArgs s_are_within) (defBody s_are_within) (defScope s_are_within) .none kV19 dc19 pm19 an19 cd19 ct19), sl19⟩)
    (c19 : PySem.W.codeIn K cd19 "are_within" = true)
    (k19 : PySem.W.keepIn K (.ref f19) = true)
    (a20 : PySem.W.nsIn K mainGlobals "is_ascending" = some (some (.ref f20)))
    (l20 : K.lookup f20 = some ⟨oc20, od20, .func (PySem.W.fnOf "is_ascending" "is_ascending" (defArgs s_is_ascending) (defBody s_is_ascending) (defScope s_is_ascending) .none kV20 dc20 pm20 an20 cd20 ct20), sl20⟩)
    (c20 : PySem.W.codeIn K cd20 "is_ascending" = true)
    (k20 : PySem.W.keepIn K (.ref f20) = true)
    (a21 : PySem.W.nsIn K mainGlobals "is_slips" = some (some (.ref f21)))
    (l21 : K.lookup f21 = some ⟨oc21, od21, .func (PySem.W.fnOf "is_slips" "is_slips" (defArgs s_is_slips) (defBody s_is_slips) (defScope s_is_slips) .none kV21 dc21 pm21 an21 cd21 ct21), sl21⟩)
    (c21 : PySem.W.codeIn K cd21 "is_slips" = true)
    (k21 : PySem.W.keepIn K (.ref f21) = true)
    (a22 : PySem.W.nsIn K mainGlobals "is_task" = some (some (.ref f22)))
    (l22 : K.lookup f22 = some ⟨oc22, od22, .func (PySem.W.fnOf "is_task" "is_task" (defArgs s_is_task) (defBody s_is_task) (defScope s_is_task) .none kV22 dc22 pm22 an22 cd22 ct22), sl22⟩)
    (c22 : PySem.W.codeIn K cd22 "is_task" = true)
    (k22 : PySem.W.keepIn K (.ref f22) = true)
    (a23 : PySem.W.nsIn K mainGlobals "checked_tasks" = some (some (.ref f23)))
    (l23 : K.lookup f23 = some ⟨oc23, od23, .func (PySem.W.fnOf "checked_tasks" "checked_tasks" (defArgs s_checked_tasks) (defBody s_checked_tasks) (defScope s_checked_tasks) .none kV23 dc23 pm23 an23 cd23 ct23), sl23⟩)
    (c23 : PySem.W.codeIn K cd23 "checked_tasks" = true)
    (k23 : PySem.W.keepIn K (.ref f23) = true)
    (a24 : PySem.W.nsIn K mainGlobals "is_pair" = some (some (.ref f24)))
    (l24 : K.lookup f24 = some ⟨oc24, od24, .func (PySem.W.fnOf "is_pair" "is_pair" (defArgs s_is_pair) (defBody s_is_pair) (defScope s_is_pair) .none kV24 dc24 pm24 an24 cd24 ct24), sl24⟩)
    (c24 : PySem.W.codeIn K cd24 "is_pair" = true)
    (k24 : PySem.W.keepIn K (.ref f24) = true)
    (a25 : PySem.W.nsIn K mainGlobals "checked_order" = some (some (.ref f25)))
    (l25 : K.lookup f25 = some ⟨oc25, od25, .func (PySem.W.fnOf "checked_order" "checked_order" (defArgs s_checked_order) (defBody s_checked_order) (defScope s_checked_order) .none kV25 dc25 pm25 an25 cd25 ct25), sl25⟩)
    (c25 : PySem.W.codeIn K cd25 "checked_order" = true)
    (k25 : PySem.W.keepIn K (.ref f25) = true)
    (a26 : PySem.W.nsIn K mainGlobals "put_behind" = some (some (.ref f26)))
    (l26 : K.lookup f26 = some ⟨oc26, od26, .func (PySem.W.fnOf "put_behind" "put_behind" (defArgs s_put_behind) (defBody s_put_behind) (defScope s_put_behind) .none kV26 dc26 pm26 an26 cd26 ct26), sl26⟩)
    (c26 : PySem.W.codeIn K cd26 "put_behind" = true)
    (k26 : PySem.W.keepIn K (.ref f26) = true)
    (a27 : PySem.W.nsIn K mainGlobals "checked_models" = some (some (.ref f27)))
    (l27 : K.lookup f27 = some ⟨oc27, od27, .func (PySem.W.fnOf "checked_models" "checked_models" (defArgs s_checked_models) (defBody s_checked_models) (defScope s_checked_models) .none kV27 dc27 pm27 an27 cd27 ct27), sl27⟩)
    (c27 : PySem.W.codeIn K cd27 "checked_models" = true)
    (k27 : PySem.W.keepIn K (.ref f27) = true)
    (a28 : PySem.W.nsIn K mainGlobals "is_arc" = some (some (.ref f28)))
    (l28 : K.lookup f28 = some ⟨oc28, od28, .func (PySem.W.fnOf "is_arc" "is_arc" (defArgs s_is_arc) (defBody s_is_arc) (defScope s_is_arc) .none kV28 dc28 pm28 an28 cd28 ct28), sl28⟩)
    (c28 : PySem.W.codeIn K cd28 "is_arc" = true)
    (k28 : PySem.W.keepIn K (.ref f28) = true)
    (a29 : PySem.W.nsIn K mainGlobals "is_state" = some (some (.ref f29)))
    (l29 : K.lookup f29 = some ⟨oc29, od29, .func (PySem.W.fnOf "is_state" "is_state" (defArgs s_is_state) (defBody s_is_state) (defScope s_is_state) .none kV29 dc29 pm29 an29 cd29 ct29), sl29⟩)
    (c29 : PySem.W.codeIn K cd29 "is_state" = true)
    (k29 : PySem.W.keepIn K (.ref f29) = true)
    (a30 : PySem.W.nsIn K mainGlobals "checked_states" = some (some (.ref f30)))
    (l30 : K.lookup f30 = some ⟨oc30, od30, .func (PySem.W.fnOf "checked_states" "checked_states" (defArgs s_checked_states) (defBody s_checked_states) (defScope s_checked_states) .none kV30 dc30 pm30 an30 cd30 ct30), sl30⟩)
    (c30 : PySem.W.codeIn K cd30 "checked_states" = true)
    (k30 : PySem.W.keepIn K (.ref f30) = true)
    (a31 : PySem.W.nsIn K mainGlobals "_law_wide" = some (some (.ref f31)))
    (l31 : K.lookup f31 = some ⟨oc31, od31, .func (PySem.W.fnOf "_law_wide" "_law_wide" (defArgs s__law_wide) (defBody s__law_wide) (defScope s__law_wide) .none kV31 dc31 pm31 an31 cd31 ct31), sl31⟩)
    (c31 : PySem.W.codeIn K cd31 "_law_wide" = true)
    (k31 : PySem.W.keepIn K (.ref f31) = true)
    (z_len : PySem.W.nsIn K mainGlobals "len" = some none)
    (z_int : PySem.W.nsIn K mainGlobals "int" = some none)
    (z_bool : PySem.W.nsIn K mainGlobals "bool" = some none)
    (z_str : PySem.W.nsIn K mainGlobals "str" = some none)
    (z_tuple : PySem.W.nsIn K mainGlobals "tuple" = some none)
    (z_list : PySem.W.nsIn K mainGlobals "list" = some none)
    (z_range : PySem.W.nsIn K mainGlobals "range" = some none)
    (z_isinstance : PySem.W.nsIn K mainGlobals "isinstance" = some none)
    (z_min : PySem.W.nsIn K mainGlobals "min" = some none)
    (z_max : PySem.W.nsIn K mainGlobals "max" = some none)
    (z_all : PySem.W.nsIn K mainGlobals "all" = some none)
    (z_enumerate : PySem.W.nsIn K mainGlobals "enumerate" = some none)
    (m_MOST_TASKS : PySem.W.nsIn K mainGlobals "MOST_TASKS" = some (some (.int 24 t_MOST_TASKS)))
    (m_MOST_TIME : PySem.W.nsIn K mainGlobals "MOST_TIME" = some (some (.int 10000 t_MOST_TIME)))
    (m_MOST_PAIRS : PySem.W.nsIn K mainGlobals "MOST_PAIRS" = some (some (.int 200 t_MOST_PAIRS)))
    (m_MOST_MODELS : PySem.W.nsIn K mainGlobals "MOST_MODELS" = some (some (.int 8 t_MOST_MODELS)))
    (m_MOST_STATES : PySem.W.nsIn K mainGlobals "MOST_STATES" = some (some (.int 60 t_MOST_STATES)))
    (m_MOST_ARCS : PySem.W.nsIn K mainGlobals "MOST_ARCS" = some (some (.int 40 t_MOST_ARCS)))
    (m_MOST_SLIPS : PySem.W.nsIn K mainGlobals "MOST_SLIPS" = some (some (.int 8 t_MOST_SLIPS)))
    (aC : PySem.W.nsIn K mainGlobals "Line" = some (some (.ref C)))
    (pg : PySem.W.plainGet K C Str.empty = true)
    (hd : PySem.W.hasDictIn K C = true)
    (po : PySem.W.plainOver K C = true)
    (sa : PySem.W.findIn K (.ref C) "__setattr__" = some (some (.builtin "object.__setattr__")))
    (n_tasks : PySem.W.findIn K (.ref C) "_tasks" = some none)
    (n_order : PySem.W.findIn K (.ref C) "_order" = some none)
    (n_models : PySem.W.findIn K (.ref C) "_models" = some none)
    (n_states : PySem.W.findIn K (.ref C) "_states" = some none)
    (n_start : PySem.W.findIn K (.ref C) "_start" = some none)
    (n_slips : PySem.W.findIn K (.ref C) "_slips" = some none)
    (mkC : PySem.W.makesIn K C = true)
    (iC : PySem.W.findIn K (.ref C) "__init__" = some (some (.ref fI)))
    (isI : PySem.W.isFn K (.ref fI) = true)
    (kC : PySem.W.keepIn K (.ref C) = true)
    (lI : K.lookup fI = some ⟨ocI, odI, .func (PySem.W.fnOf "__init__" "Line.__init__" (defArgs s_Line___init__) (defBody s_Line___init__) (defScope s_Line___init__) .none (.ref DI) dcI pmI anI cdI ctI), slI⟩)
    (cI : PySem.W.codeIn K cdI "Line.__init__" = true)
    (kI : PySem.W.keepIn K (.ref fI) = true)
    (sI : PySem.W.nsIn K DI "slips" = some (some (.int 0 tI)))
    (atPtasks : PySem.W.findIn K (.ref C) "tasks" = some (some (.ref pPtasks)))
    (gePtasks : PySem.W.specialIn K (.ref pPtasks) "__get__" = some (some (.builtin "property.__get__")))
    (taPtasks : PySem.W.takesIn K (.ref pPtasks) = some true)
    (rePtasks : PySem.W.recIn K pPtasks "property" = some (.ref fPtasks :: rPtasks))
    (lPtasks : K.lookup fPtasks = some ⟨ocPtasks, odPtasks, .func (PySem.W.fnOf "tasks" "Line.tasks" (defArgs s_Line_tasks) (defBody s_Line_tasks) (defScope s_Line_tasks) .none kVPtasks dcPtasks pmPtasks anPtasks cdPtasks ctPtasks), slPtasks⟩)
    (cPtasks : PySem.W.codeIn K cdPtasks "Line.tasks" = true)
    (kPtasks : PySem.W.keepIn K (.ref fPtasks) = true)
    (atPorder : PySem.W.findIn K (.ref C) "order" = some (some (.ref pPorder)))
    (gePorder : PySem.W.specialIn K (.ref pPorder) "__get__" = some (some (.builtin "property.__get__")))
    (taPorder : PySem.W.takesIn K (.ref pPorder) = some true)
    (rePorder : PySem.W.recIn K pPorder "property" = some (.ref fPorder :: rPorder))
    (lPorder : K.lookup fPorder = some ⟨ocPorder, odPorder, .func (PySem.W.fnOf "order" "Line.order" (defArgs s_Line_order) (defBody s_Line_order) (defScope s_Line_order) .none kVPorder dcPorder pmPorder anPorder cdPorder ctPorder), slPorder⟩)
    (cPorder : PySem.W.codeIn K cdPorder "Line.order" = true)
    (kPorder : PySem.W.keepIn K (.ref fPorder) = true)
    (atPmodels : PySem.W.findIn K (.ref C) "models" = some (some (.ref pPmodels)))
    (gePmodels : PySem.W.specialIn K (.ref pPmodels) "__get__" = some (some (.builtin "property.__get__")))
    (taPmodels : PySem.W.takesIn K (.ref pPmodels) = some true)
    (rePmodels : PySem.W.recIn K pPmodels "property" = some (.ref fPmodels :: rPmodels))
    (lPmodels : K.lookup fPmodels = some ⟨ocPmodels, odPmodels, .func (PySem.W.fnOf "models" "Line.models" (defArgs s_Line_models) (defBody s_Line_models) (defScope s_Line_models) .none kVPmodels dcPmodels pmPmodels anPmodels cdPmodels ctPmodels), slPmodels⟩)
    (cPmodels : PySem.W.codeIn K cdPmodels "Line.models" = true)
    (kPmodels : PySem.W.keepIn K (.ref fPmodels) = true)
    (atPstates : PySem.W.findIn K (.ref C) "states" = some (some (.ref pPstates)))
    (gePstates : PySem.W.specialIn K (.ref pPstates) "__get__" = some (some (.builtin "property.__get__")))
    (taPstates : PySem.W.takesIn K (.ref pPstates) = some true)
    (rePstates : PySem.W.recIn K pPstates "property" = some (.ref fPstates :: rPstates))
    (lPstates : K.lookup fPstates = some ⟨ocPstates, odPstates, .func (PySem.W.fnOf "states" "Line.states" (defArgs s_Line_states) (defBody s_Line_states) (defScope s_Line_states) .none kVPstates dcPstates pmPstates anPstates cdPstates ctPstates), slPstates⟩)
    (cPstates : PySem.W.codeIn K cdPstates "Line.states" = true)
    (kPstates : PySem.W.keepIn K (.ref fPstates) = true)
    (atPstart : PySem.W.findIn K (.ref C) "start" = some (some (.ref pPstart)))
    (gePstart : PySem.W.specialIn K (.ref pPstart) "__get__" = some (some (.builtin "property.__get__")))
    (taPstart : PySem.W.takesIn K (.ref pPstart) = some true)
    (rePstart : PySem.W.recIn K pPstart "property" = some (.ref fPstart :: rPstart))
    (lPstart : K.lookup fPstart = some ⟨ocPstart, odPstart, .func (PySem.W.fnOf "start" "Line.start" (defArgs s_Line_start) (defBody s_Line_start) (defScope s_Line_start) .none kVPstart dcPstart pmPstart anPstart cdPstart ctPstart), slPstart⟩)
    (cPstart : PySem.W.codeIn K cdPstart "Line.start" = true)
    (kPstart : PySem.W.keepIn K (.ref fPstart) = true)
    (atPslips : PySem.W.findIn K (.ref C) "slips" = some (some (.ref pPslips)))
    (gePslips : PySem.W.specialIn K (.ref pPslips) "__get__" = some (some (.builtin "property.__get__")))
    (taPslips : PySem.W.takesIn K (.ref pPslips) = some true)
    (rePslips : PySem.W.recIn K pPslips "property" = some (.ref fPslips :: rPslips))
    (lPslips : K.lookup fPslips = some ⟨ocPslips, odPslips, .func (PySem.W.fnOf "slips" "Line.slips" (defArgs s_Line_slips) (defBody s_Line_slips) (defScope s_Line_slips) .none kVPslips dcPslips pmPslips anPslips cdPslips ctPslips), slPslips⟩)
    (cPslips : PySem.W.codeIn K cdPslips "Line.slips" = true)
    (kPslips : PySem.W.keepIn K (.ref fPslips) = true)
    (aF : PySem.W.nsIn K mainGlobals "free_line" = some (some (.ref fF)))
    (lF : K.lookup fF = some ⟨ocF, odF, .func (PySem.W.fnOf "free_line" "free_line" (defArgs s_free_line) (defBody s_free_line) (defScope s_free_line) .none (.ref DF) dcF pmF anF cdF ctF), slF⟩)
    (cF : PySem.W.codeIn K cdF "free_line" = true)
    (kF : PySem.W.keepIn K (.ref fF) = true)
    (sF : PySem.W.nsIn K DF "slips" = some (some (.int 0 tF)))
    (aL : PySem.W.nsIn K mainGlobals "law" = some (some (.ref fL)))
    (lL : K.lookup fL = some ⟨ocL, odL, .func (PySem.W.fnOf "law" "law" (defArgs s_law) (defBody s_law) (defScope s_law) .none kVL dcL pmL anL cdL ctL), slL⟩)
    (cL : PySem.W.codeIn K cdL "law" = true)
    (kL : PySem.W.keepIn K (.ref fL) = true) :
    ∃ fd : FuncData, (∀ (s : Shared) (v : Value), BindsTo s fd ⟨[v], []⟩ [("script", v)]) ∧ ∀ base : Heap, K.In base → base.Ns mainGlobals mg → FnOk P w K mg base CX0 10 fa fd ["script"] (spLaw K) := by
  have STxt : Txt K mg := ⟨(PySem.W.mg_none_of X G z_len),
    (PySem.W.mg_none_of X G z_int),
    (PySem.W.mg_none_of X G z_bool),
    (PySem.W.mg_none_of X G z_str),
    (PySem.W.mg_none_of X G z_tuple),
    (PySem.W.mg_none_of X G z_list),
    (PySem.W.mg_none_of X G z_range),
    (PySem.W.mg_none_of X G z_isinstance),
    (PySem.W.mg_none_of X G z_min),
    (PySem.W.mg_none_of X G z_max),
    (df_mk X G (fun _ _ _ _ _ _ us hl => match us, hl with | [_, _], _ => rfl) a1 l1 c1 k1),
    (df_mk X G (fun _ _ _ _ _ _ us hl => match us, hl with | [_], _ => rfl) a2 l2 c2 k2),
    (df_mk X G (fun _ _ _ _ _ _ us hl => match us, hl with | [_, _, _], _ => rfl) a3 l3 c3 k3),
    (df_mk X G (fun _ _ _ _ _ _ us hl => match us, hl with | [_, _, _], _ => rfl) a4 l4 c4 k4),
    (df_mk X G (fun _ _ _ _ _ _ us hl => match us, hl with | [_, _], _ => rfl) a5 l5 c5 k5),
    (df_mk X G (fun _ _ _ _ _ _ us hl => match us, hl with | [_, _, _], _ => rfl) a6 l6 c6 k6),
    (df_mk X G (fun _ _ _ _ _ _ us hl => match us, hl with | [_, _, _], _ => rfl) a7 l7 c7 k7),
    (df_mk X G (fun _ _ _ _ _ _ us hl => match us, hl with | [_, _, _], _ => rfl) a8 l8 c8 k8),
    (df_mk X G (fun _ _ _ _ _ _ us hl => match us, hl with | [_, _, _, _], _ => rfl) a9 l9 c9 k9),
    (df_mk X G (fun _ _ _ _ _ _ us hl => match us, hl with | [_, _, _], _ => rfl) a10 l10 c10 k10),
    (df_mk X G (fun _ _ _ _ _ _ us hl => match us, hl with | [_, _, _, _, _], _ => rfl) a11 l11 c11 k11),
    (df_mk X G (fun _ _ _ _ _ _ us hl => match us, hl with | [_, _, _, _, _, _], _ => rfl) a12 l12 c12 k12),
    (df_mk X G (fun _ _ _ _ _ _ us hl => match us, hl with | [_, _], _ => rfl) a13 l13 c13 k13),
    (df_mk X G (fun _ _ _ _ _ _ us hl => match us, hl with | [_, _], _ => rfl) a14 l14 c14 k14),
    (df_mk X G (fun _ _ _ _ _ _ us hl => match us, hl with | [_], _ => rfl) a15 l15 c15 k15),
    (df_mk X G (fun _ _ _ _ _ _ us hl => match us, hl with | [_, _, _], _ => rfl) a16 l16 c16 k16),
    (df_mk X G (fun _ _ _ _ _ _ us hl => match us, hl with | [_], _ => rfl) a17 l17 c17 k17),
    (df_mk X G (fun _ _ _ _ _ _ us hl => match us, hl with | [_, _, _], _ => rfl) a18 l18 c18 k18),
    (df_mk X G (fun _ _ _ _ _ _ us hl => match us, hl with | [_, _, _], _ => rfl) a19 l19 c19 k19),
    (df_mk X G (fun _ _ _ _ _ _ us hl => match us, hl with | [_, _], _ => rfl) a20 l20 c20 k20),
    (df_mk X G (fun _ _ _ _ _ _ us hl => match us, hl with | [_], _ => rfl) a21 l21 c21 k21),
    (df_mk X G (fun _ _ _ _ _ _ us hl => match us, hl with | [_], _ => rfl) a22 l22 c22 k22),
    (df_mk X G (fun _ _ _ _ _ _ us hl => match us, hl with | [_], _ => rfl) a23 l23 c23 k23),
    (df_mk X G (fun _ _ _ _ _ _ us hl => match us, hl with | [_, _], _ => rfl) a24 l24 c24 k24),
    (df_mk X G (fun _ _ _ _ _ _ us hl => match us, hl with | [_, _], _ => rfl) a25 l25 c25 k25),
    (df_mk X G (fun _ _ _ _ _ _ us hl => match us, hl with | [_, _, _], _ => rfl) a26 l26 c26 k26),
    (df_mk X G (fun _ _ _ _ _ _ us hl => match us, hl with | [_, _], _ => rfl) a27 l27 c27 k27),
    (df_mk X G (fun _ _ _ _ _ _ us hl => match us, hl with | [_, _, _], _ => rfl) a28 l28 c28 k28),
    (df_mk X G (fun _ _ _ _ _ _ us hl => match us, hl with | [_, _, _], _ => rfl) a29 l29 c29 k29),
    (df_mk X G (fun _ _ _ _ _ _ us hl => match us, hl with | [_, _], _ => rfl) a30 l30 c30 k30),
    (PySem.W.mg_none_of X G z_all),
    (PySem.W.mg_none_of X G z_enumerate),
    (⟨_, PySem.W.mg_of X G m_MOST_TASKS, ⟨t_MOST_TASKS, rfl⟩⟩),
    (⟨_, PySem.W.mg_of X G m_MOST_TIME, ⟨t_MOST_TIME, rfl⟩⟩),
    (⟨_, PySem.W.mg_of X G m_MOST_PAIRS, ⟨t_MOST_PAIRS, rfl⟩⟩),
    (⟨_, PySem.W.mg_of X G m_MOST_MODELS, ⟨t_MOST_MODELS, rfl⟩⟩),
    (⟨_, PySem.W.mg_of X G m_MOST_STATES, ⟨t_MOST_STATES, rfl⟩⟩),
    (⟨_, PySem.W.mg_of X G m_MOST_ARCS, ⟨t_MOST_ARCS, rfl⟩⟩),
    (⟨_, PySem.W.mg_of X G m_MOST_SLIPS, ⟨t_MOST_SLIPS, rfl⟩⟩),
    (df_mk X G (fun _ _ _ _ _ _ us hl => match us, hl with | [_, _, _], _ => rfl) a31 l31 c31 k31)⟩
  have XX : Tx K mg C := ⟨STxt, ⟨pg, hd, po, sa⟩, PySem.W.mg_of X G aC, n_tasks, n_order, n_models, n_states, n_start, n_slips,
    ⟨fI, _, ⟨mkC, iC, isI, kC⟩, ⟨⟨ocI, odI, .none, .ref DI, dcI, pmI, anI, cdI, ctI, slI, rfl, lI, cI, .inl ⟨rfl, rfl⟩, .inr ⟨DI, rfl, fun q hq => by rw [List.mem_singleton.mp hq]; exact ⟨_, sI, ⟨tI, rfl⟩⟩⟩⟩, kI⟩⟩,
    ⟨pPtasks, fPtasks, _, ⟨atPtasks, gePtasks, taPtasks, ⟨rPtasks, rePtasks⟩⟩, fun_mk (st := s_Line_tasks) lPtasks cPtasks kPtasks, (fun_mk (st := s_Line_tasks) lPtasks cPtasks kPtasks).binds (ps := ["self"]) (fun _ _ _ _ _ _ us hl => match us, hl with | [_], _ => rfl)⟩,
    ⟨pPorder, fPorder, _, ⟨atPorder, gePorder, taPorder, ⟨rPorder, rePorder⟩⟩, fun_mk (st := s_Line_order) lPorder cPorder kPorder, (fun_mk (st := s_Line_order) lPorder cPorder kPorder).binds (ps := ["self"]) (fun _ _ _ _ _ _ us hl => match us, hl with | [_], _ => rfl)⟩,
    ⟨pPmodels, fPmodels, _, ⟨atPmodels, gePmodels, taPmodels, ⟨rPmodels, rePmodels⟩⟩, fun_mk (st := s_Line_models) lPmodels cPmodels kPmodels, (fun_mk (st := s_Line_models) lPmodels cPmodels kPmodels).binds (ps := ["self"]) (fun _ _ _ _ _ _ us hl => match us, hl with | [_], _ => rfl)⟩,
    ⟨pPstates, fPstates, _, ⟨atPstates, gePstates, taPstates, ⟨rPstates, rePstates⟩⟩, fun_mk (st := s_Line_states) lPstates cPstates kPstates, (fun_mk (st := s_Line_states) lPstates cPstates kPstates).binds (ps := ["self"]) (fun _ _ _ _ _ _ us hl => match us, hl with | [_], _ => rfl)⟩,
    ⟨pPstart, fPstart, _, ⟨atPstart, gePstart, taPstart, ⟨rPstart, rePstart⟩⟩, fun_mk (st := s_Line_start) lPstart cPstart kPstart, (fun_mk (st := s_Line_start) lPstart cPstart kPstart).binds (ps := ["self"]) (fun _ _ _ _ _ _ us hl => match us, hl with | [_], _ => rfl)⟩,
    ⟨pPslips, fPslips, _, ⟨atPslips, gePslips, taPslips, ⟨rPslips, rePslips⟩⟩, fun_mk (st := s_Line_slips) lPslips cPslips kPslips, (fun_mk (st := s_Line_slips) lPslips cPslips kPslips).binds (ps := ["self"]) (fun _ _ _ _ _ _ us hl => match us, hl with | [_], _ => rfl)⟩⟩
  have Y : Txf K mg := ⟨fF, _, ⟨⟨ocF, odF, .none, .ref DF, dcF, pmF, anF, cdF, ctF, slF, rfl, lF, cF, .inl ⟨rfl, rfl⟩, .inr ⟨DF, rfl, fun q hq => by rw [List.mem_singleton.mp hq]; exact ⟨_, sF, ⟨tF, rfl⟩⟩⟩⟩, kF⟩, PySem.W.mg_of X G aF⟩
  have e := hfa.symm.trans (PySem.W.mg_of X G aL)
  cases e
  have FL := fun_mk (st := s_law) lL cL kL
  exact ⟨_, fun s v => .of_eq rfl, fun base _ _ => ok_law FL XX Y⟩
end Aq
open PySem PySem.W PyProof.Rows
set_option maxHeartbeats 0 in
theorem PySem.Challenge.cw_anyrowline_k04_lines_with_any_row_holds : PySem.Challenge.rw_anyrowline_k04_lines_with_any_row.Holds := by
  w_on; o_law; k_head; (case hw => w_witness2)
  k_fill
  refine L2.walk_of (l := PySem.Challenge.rw_anyrowline_k04_lines_with_any_row) (n := 63) (k := 10) (x := "script") (CX := fun _ => L2.CX0) (sp := fun w => Aq.spLaw _) rfl (by decide) rfl ⟨rfl, by decide, by decide⟩ (fun w h Y => PySem.W.kIn_of Y) ?F (fun _ _ a ns hl _ hS => ⟨a, ns, rfl, hS, hl, fun _ => rfl⟩) (fun _ _ _ _ _ h => h)
  case F =>
    intro w mg fa h KX G hmg
    refine' Aq.all_mk KX G hmg ?a1 ?l1 ?c1 ?k1 ?a2 ?l2 ?c2 ?k2 ?a3 ?l3 ?c3 ?k3 ?a4 ?l4 ?c4 ?k4 ?a5 ?l5 ?c5 ?k5 ?a6 ?l6 ?c6 ?k6 ?a7 ?l7 ?c7 ?k7 ?a8 ?l8 ?c8 ?k8 ?a9 ?l9 ?c9 ?k9 ?a10 ?l10 ?c10 ?k10 ?a11 ?l11 ?c11 ?k11 ?a12 ?l12 ?c12 ?k12 ?a13 ?l13 ?c13 ?k13 ?a14 ?l14 ?c14 ?k14 ?a15 ?l15 ?c15 ?k15 ?a16 ?l16 ?c16 ?k16 ?a17 ?l17 ?c17 ?k17 ?a18 ?l18 ?c18 ?k18 ?a19 ?l19 ?c19 ?k19 ?a20 ?l20 ?c20 ?k20 ?a21 ?l21 ?c21 ?k21 ?a22 ?l22 ?c22 ?k22 ?a23 ?l23 ?c23 ?k23 ?a24 ?l24 ?c24 ?k24 ?a25 ?l25 ?c25 ?k25 ?a26 ?l26 ?c26 ?k26 ?a27 ?l27 ?c27 ?k27 ?a28 ?l28 ?c28 ?k28 ?a29 ?l29 ?c29 ?k29 ?a30 ?l30 ?c30 ?k30 ?a31 ?l31 ?c31 ?k31 ?z_len ?z_int ?z_bool ?z_str ?z_tuple ?z_list ?z_range ?z_isinstance ?z_min ?z_max ?z_all ?z_enumerate ?m_MOST_TASKS ?m_MOST_TIME ?m_MOST_PAIRS ?m_MOST_MODELS ?m_MOST_STATES ?m_MOST_ARCS ?m_MOST_SLIPS ?aC ?pg ?hd ?po ?sa ?n_tasks ?n_order ?n_models ?n_states ?n_start ?n_slips ?mkC ?iC ?isI ?kC ?lI ?cI ?kI ?sI ?atPtasks ?gePtasks ?taPtasks ?rePtasks ?lPtasks ?cPtasks ?kPtasks ?atPorder ?gePorder ?taPorder ?rePorder ?lPorder ?cPorder ?kPorder ?atPmodels ?gePmodels ?taPmodels ?rePmodels ?lPmodels ?cPmodels ?kPmodels ?atPstates ?gePstates ?taPstates ?rePstates ?lPstates ?cPstates ?kPstates ?atPstart ?gePstart ?taPstart ?rePstart ?lPstart ?cPstart ?kPstart ?atPslips ?gePslips ?taPslips ?rePslips ?lPslips ?cPslips ?kPslips ?aF ?lF ?cF ?kF ?sF ?aL ?lL ?cL ?kL
    (case a1 => k_is); (case l1 => k_is); (case c1 => k_is); (case k1 => k_is); (case a2 => k_is); (case l2 => k_is); (case c2 => k_is); (case k2 => k_is)
    (case a3 => k_is); (case l3 => k_is); (case c3 => k_is); (case k3 => k_is); (case a4 => k_is); (case l4 => k_is); (case c4 => k_is); (case k4 => k_is)
    (case a5 => k_is); (case l5 => k_is); (case c5 => k_is); (case k5 => k_is); (case a6 => k_is); (case l6 => k_is); (case c6 => k_is); (case k6 => k_is)
    (case a7 => k_is); (case l7 => k_is); (case c7 => k_is); (case k7 => k_is); (case a8 => k_is); (case l8 => k_is); (case c8 => k_is); (case k8 => k_is)
    (case a9 => k_is); (case l9 => k_is); (case c9 => k_is); (case k9 => k_is); (case a10 => k_is); (case l10 => k_is); (case c10 => k_is); (case k10 => k_is)
    (case a11 => k_is); (case l11 => k_is); (case c11 => k_is); (case k11 => k_is); (case a12 => k_is); (case l12 => k_is); (case c12 => k_is); (case k12 => k_is)
    (case a13 => k_is); (case l13 => k_is); (case c13 => k_is); (case k13 => k_is); (case a14 => k_is); (case l14 => k_is); (case c14 => k_is); (case k14 => k_is)
    (case a15 => k_is); (case l15 => k_is); (case c15 => k_is); (case k15 => k_is); (case a16 => k_is); (case l16 => k_is); (case c16 => k_is); (case k16 => k_is)
    (case a17 => k_is); (case l17 => k_is); (case c17 => k_is); (case k17 => k_is); (case a18 => k_is); (case l18 => k_is); (case c18 => k_is); (case k18 => k_is)
    (case a19 => k_is); (case l19 => k_is); (case c19 => k_is); (case k19 => k_is); (case a20 => k_is); (case l20 => k_is); (case c20 => k_is); (case k20 => k_is)
    (case a21 => k_is); (case l21 => k_is); (case c21 => k_is); (case k21 => k_is); (case a22 => k_is); (case l22 => k_is); (case c22 => k_is); (case k22 => k_is)
    (case a23 => k_is); (case l23 => k_is); (case c23 => k_is); (case k23 => k_is); (case a24 => k_is); (case l24 => k_is); (case c24 => k_is); (case k24 => k_is)
    (case a25 => k_is); (case l25 => k_is); (case c25 => k_is); (case k25 => k_is); (case a26 => k_is); (case l26 => k_is); (case c26 => k_is); (case k26 => k_is)
    (case a27 => k_is); (case l27 => k_is); (case c27 => k_is); (case k27 => k_is); (case a28 => k_is); (case l28 => k_is); (case c28 => k_is); (case k28 => k_is)
    (case a29 => k_is); (case l29 => k_is); (case c29 => k_is); (case k29 => k_is); (case a30 => k_is); (case l30 => k_is); (case c30 => k_is); (case k30 => k_is)
    (case a31 => k_is); (case l31 => k_is); (case c31 => k_is); (case k31 => k_is); (case z_len => k_is); (case z_int => k_is); (case z_bool => k_is); (case z_str => k_is)
    (case z_tuple => k_is); (case z_list => k_is); (case z_range => k_is); (case z_isinstance => k_is); (case z_min => k_is); (case z_max => k_is); (case z_all => k_is); (case z_enumerate => k_is)
    (case m_MOST_TASKS => k_is); (case m_MOST_TIME => k_is); (case m_MOST_PAIRS => k_is); (case m_MOST_MODELS => k_is); (case m_MOST_STATES => k_is); (case m_MOST_ARCS => k_is); (case m_MOST_SLIPS => k_is); (case aC => k_is)
    (case pg => k_is); (case hd => k_is); (case po => k_is); (case sa => k_is); (case n_tasks => k_is); (case n_order => k_is); (case n_models => k_is); (case n_states => k_is)
    (case n_start => k_is); (case n_slips => k_is); (case mkC => k_is); (case iC => k_is); (case isI => k_is); (case kC => k_is); (case lI => k_is); (case cI => k_is)
    (case kI => k_is); (case sI => k_is); (case atPtasks => k_is); (case gePtasks => k_is); (case taPtasks => k_is); (case rePtasks => k_is); (case lPtasks => k_is); (case cPtasks => k_is)
    (case kPtasks => k_is); (case atPorder => k_is); (case gePorder => k_is); (case taPorder => k_is); (case rePorder => k_is); (case lPorder => k_is); (case cPorder => k_is); (case kPorder => k_is)
    (case atPmodels => k_is); (case gePmodels => k_is); (case taPmodels => k_is); (case rePmodels => k_is); (case lPmodels => k_is); (case cPmodels => k_is); (case kPmodels => k_is); (case atPstates => k_is)
    (case gePstates => k_is); (case taPstates => k_is); (case rePstates => k_is); (case lPstates => k_is); (case cPstates => k_is); (case kPstates => k_is); (case atPstart => k_is); (case gePstart => k_is)
    (case taPstart => k_is); (case rePstart => k_is); (case lPstart => k_is); (case cPstart => k_is); (case kPstart => k_is); (case atPslips => k_is); (case gePslips => k_is); (case taPslips => k_is)
    (case rePslips => k_is); (case lPslips => k_is); (case cPslips => k_is); (case kPslips => k_is); (case aF => k_is); (case lF => k_is); (case cF => k_is); (case kF => k_is)
    (case sF => k_is); (case aL => k_is); (case lL => k_is); (case cL => k_is); (case kL => k_is)
