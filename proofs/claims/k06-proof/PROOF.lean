import PyProof.Rows.All
import Wide.All
import OpenK.AllK
import Wide.FinOn
import HandS.ForMost
import HandS.Flow
import HandS.IsInst
import HandS.Property
import HandS.Defaults
import HandS.MakeKwOnly
import HandS.Conv
import HandS.TupAny
import HandS.Codes
import HandS.NoneIn
import HandS.Deep
import HandS.Walk
import KE.GoesEnum
import HandS.ForSpec
import HandS.Exc
import HandS.ExcOwn
import HandS.ExcInit
import HandS.Ends
import KE.KExcInit
import KE.KExcLine
import HandS.TupMul
import HandS.SortInts
import HandS.SortKw
import HandS.SortRule
import HandS.Zip
import KE.GoesZip
import KE.GoesMore
import HandS.ExcIs
import PyProof.Rows.All
import Wide.All
import OpenK.AllK
import Wide.FinOn
import PySem.Challenge.RW_anyrowline_k06_refusals_of_made_lines
set_option Elab.async false
set_option linter.all false
set_option maxRecDepth 100000
/-! What is shared by the laws' proofs: heaps that grow while one list of one number is counted up, data of tuples and numbers. -/
namespace Aq
open PySem PySem.Spec PyProof.Rows L2

/-! ### heaps -/
theorem small1000' {n : Nat} (h : n ≤ 100000) : n < sizeLine := Nat.lt_of_le_of_lt h (by decide)
theorem grow {H : Hp} {p : Addr} {o : HO} (h : H p = none) : Same H (upd H p o) := fun b x e => by
  rw [upd_ne (ne_of_none e h)]
  exact e
theorem Same.sqT {K : PySem.W.Frag} {H H' : Hp} {a : Addr} {xs : List V} (e : Same H H') (h : SqT K H a xs) : SqT K H' a xs := by
  rcases h with (h | ⟨o, h⟩) | h
  · exact .inl (.inl (e _ _ h))
  · exact .inl (.inr ⟨o, e _ _ h⟩)
  · exact .inr h
/-- all that was tracked, but at s, is as it was -/
def But (s : Addr) (H H' : Hp) : Prop := ∀ b o, b ≠ s → H b = some o → H' b = some o
theorem But.refl {s : Addr} {H : Hp} : But s H H := fun _ _ _ e => e
theorem But.trans {s : Addr} {H H1 H2 : Hp} (a : But s H H1) (b : But s H1 H2) : But s H H2 := fun c o n e => b c o n (a c o n e)
theorem But.of {s : Addr} {H H1 : Hp} (a : Same H H1) : But s H H1 := fun c o _ e => a c o e
theorem But.at_ {s : Addr} {H : Hp} {o : HO} : But s H (upd H s o) := fun c u n e => by
  rw [upd_ne n]
  exact e
/-- the counter -/
def Spot (H : Hp) (s : Addr) : Prop := ∃ n : Int, 0 ≤ n ∧ H s = some (.lst [.int n])
/-- the row of numbers -/
def Row (H : Hp) (a : Addr) : Prop := ∃ ns : List Int, H a = some (.lst (ns.map V.int)) ∧ 0 < ns.length ∧ ns.length ≤ 4000
/-- both stand -/
structure RS (H : Hp) (a s : Addr) : Prop where
  row : Row H a
  spot : Spot H s
  ne : a ≠ s
/-- from H to H' only the counter has changed, and new things have come -/
structure Dr (s : Addr) (H H' : Hp) : Prop where
  but : But s H H'
  spot : Spot H' s
theorem Dr.trans {s : Addr} {H H1 H2 : Hp} (a : Dr s H H1) (b : Dr s H1 H2) : Dr s H H2 := ⟨a.but.trans b.but, b.spot⟩
theorem Spot.same {H H' : Hp} {s : Addr} (h : Spot H s) (e : Same H H') : Spot H' s := by
  obtain ⟨n, a, b⟩ := h
  exact ⟨n, a, e _ _ b⟩
theorem Dr.same {s : Addr} {H H' : Hp} (h : Spot H s) (e : Same H H') : Dr s H H' := ⟨.of e, h.same e⟩
theorem Dr.grow {s p : Addr} {H H1 : Hp} {o : HO} (a : Dr s H H1) (h : H1 p = none) : Dr s H (upd H1 p o) := a.trans (.same a.spot (Aq.grow h))
theorem RS.dr {H H' : Hp} {a s : Addr} (h : RS H a s) (d : Dr s H H') : RS H' a s := by
  obtain ⟨ns, e, l1, l2⟩ := h.row
  exact ⟨⟨ns, d.but _ _ h.ne e, l1, l2⟩, d.spot, h.ne⟩
theorem RS.same {H H' : Hp} {a s : Addr} (h : RS H a s) (e : Same H H') : RS H' a s := h.dr (.same h.spot e)
theorem Dr.sqT {K : PySem.W.Frag} {H H' : Hp} {s a : Addr} {xs : List V} (d : Dr s H H') (hs : Spot H s) (h : SqT K H a xs) : SqT K H' a xs := by
  obtain ⟨n, _, e⟩ := hs
  rcases h with (h | ⟨o, h⟩) | h
  · exact .inl (.inl (d.but _ _ (ne_of h e (by intro z; cases z)) h))
  · exact .inl (.inr ⟨o, d.but _ _ (ne_of h e (by intro z; cases z)) h⟩)
  · exact .inr h

/-! ### data -/
/-- a tuple of numbers; of such; of such -/
def T1 (K : PySem.W.Frag) (H : Hp) (v : V) (l : List Int) : Prop := ∃ a, v = .ref a ∧ SqT K H a (l.map V.int) ∧ l.length ≤ 1000
def T2 (K : PySem.W.Frag) (H : Hp) (v : V) (l : List (List Int)) : Prop := ∃ a xs, v = .ref a ∧ SqT K H a xs ∧ Paired (T1 K H) xs l ∧ l.length ≤ 1000
def T3 (K : PySem.W.Frag) (H : Hp) (v : V) (l : List (List (List Int))) : Prop := ∃ a xs, v = .ref a ∧ SqT K H a xs ∧ Paired (T2 K H) xs l ∧ l.length ≤ 1000
/-- tuples stay -/
def Stay (K : PySem.W.Frag) (H H' : Hp) : Prop := ∀ a xs, SqT K H a xs → SqT K H' a xs
theorem Stay.refl {K : PySem.W.Frag} {H : Hp} : Stay K H H := fun _ _ h => h
theorem Stay.trans {K : PySem.W.Frag} {H H1 H2 : Hp} (a : Stay K H H1) (b : Stay K H1 H2) : Stay K H H2 := fun c xs h => b c xs (a c xs h)
theorem Stay.same {K : PySem.W.Frag} {H H' : Hp} (e : Same H H') : Stay K H H' := fun _ _ h => Same.sqT e h
theorem Stay.dr {K : PySem.W.Frag} {s : Addr} {H H' : Hp} (hs : Spot H s) (d : Dr s H H') : Stay K H H' := fun _ _ h => d.sqT hs h
theorem T1.stay {K : PySem.W.Frag} {H H' : Hp} (e : Stay K H H') {v : V} {l : List Int} (h : T1 K H v l) : T1 K H' v l := by
  obtain ⟨a, rfl, t, z⟩ := h
  exact ⟨a, rfl, e _ _ t, z⟩
theorem T2.stay {K : PySem.W.Frag} {H H' : Hp} (e : Stay K H H') {v : V} {l : List (List Int)} (h : T2 K H v l) : T2 K H' v l := by
  obtain ⟨a, xs, rfl, t, p, z⟩ := h
  exact ⟨a, xs, rfl, e _ _ t, L2.Paired.mapP p fun _ _ q => q.stay e, z⟩
theorem T3.stay {K : PySem.W.Frag} {H H' : Hp} (e : Stay K H H') {v : V} {l : List (List (List Int))} (h : T3 K H v l) : T3 K H' v l := by
  obtain ⟨a, xs, rfl, t, p, z⟩ := h
  exact ⟨a, xs, rfl, e _ _ t, L2.Paired.mapP p fun _ _ q => q.stay e, z⟩
theorem pd_stay {K : PySem.W.Frag} {H H' : Hp} (e : Stay K H H') {xs : List V} {l : List (List Int)} (p : Paired (T1 K H) xs l) : Paired (T1 K H') xs l := L2.Paired.mapP p fun _ _ q => q.stay e
theorem pd_stay2 {K : PySem.W.Frag} {H H' : Hp} (e : Stay K H H') {xs : List V} {l : List (List (List Int))} (p : Paired (T2 K H) xs l) : Paired (T2 K H') xs l := L2.Paired.mapP p fun _ _ q => q.stay e
theorem Pd.snoc {α β : Type} {R : α → β → Prop} : ∀ {xs : List α} {ys : List β} {x : α} {y : β}, Paired R xs ys → R x y → Paired R (xs ++ [x]) (ys ++ [y])
  | _, _, _, _, .nil, r => .cons r .nil
  | _, _, _, _, .cons a t, r => .cons a (Pd.snoc t r)
theorem Pd.at_ {α β : Type} {R : α → β → Prop} : ∀ {xs : List α} {ys : List β} {i : Nat} {x : α}, Paired R xs ys → xs[i]? = some x → ∃ y, ys[i]? = some y ∧ R x y
  | _, _, _, _, .nil, h => by simp at h
  | _, _, 0, _, .cons a t, h => ⟨_, rfl, by cases Option.some.inj h; exact a⟩
  | _, _, i + 1, _, .cons a t, h => by
    obtain ⟨y, h1, h2⟩ := Pd.at_ (i := i) t h
    exact ⟨y, h1, h2⟩
theorem Pd.at2 {α β : Type} {R : α → β → Prop} : ∀ {xs : List α} {ys : List β} {i : Nat} {y : β}, Paired R xs ys → ys[i]? = some y → ∃ x, xs[i]? = some x ∧ R x y
  | _, _, _, _, .nil, h => by simp at h
  | _, _, 0, _, .cons a t, h => ⟨_, rfl, by cases Option.some.inj h; exact a⟩
  | _, _, i + 1, _, .cons a t, h => by
    obtain ⟨y, h1, h2⟩ := Pd.at2 (i := i) t h
    exact ⟨y, h1, h2⟩

/-! ### what is the same -/
def scalB : V → Bool
  | .non => true
  | .bl _ => true
  | .int _ => true
  | .str _ => true
  | _ => false
/-- v and w are the same plain data, at most n deep -/
def So (K : PySem.W.Frag) (H : Hp) : Nat → V → V → Prop
  | 0, v, w => v = w ∧ scalB v = true
  | n + 1, v, w => (v = w ∧ scalB v = true) ∨ ∃ a b xs ys, v = .ref a ∧ w = .ref b ∧ SqT K H a xs ∧ SqT K H b ys ∧ Paired (So K H n) xs ys ∧ ys.length ≤ 1000
theorem So.stay {K : PySem.W.Frag} {H H' : Hp} (e : Stay K H H') : ∀ {n : Nat} {v w : V}, So K H n v w → So K H' n v w
  | 0, _, _, h => h
  | n + 1, _, _, .inl h => .inl h
  | n + 1, _, _, .inr ⟨a, b, xs, ys, e1, e2, t1, t2, p, z⟩ => .inr ⟨a, b, xs, ys, e1, e2, e _ _ t1, e _ _ t2, L2.Paired.mapP p fun _ _ q => So.stay e q, z⟩
theorem So.sc {K : PySem.W.Frag} {H : Hp} {v : V} (h : scalB v = true) : ∀ n : Nat, So K H n v v
  | 0 => ⟨rfl, h⟩
  | _ + 1 => .inl ⟨rfl, h⟩
theorem so_ints {K : PySem.W.Frag} {H : Hp} (n : Nat) : ∀ l : List Int, Paired (So K H n) (l.map V.int) (l.map V.int)
  | [] => .nil
  | x :: r => .cons (So.sc rfl n) (so_ints n r)
theorem so1 {K : PySem.W.Frag} {H : Hp} {v w : V} {l : List Int} (h : T1 K H v l) (h' : T1 K H w l) (n : Nat) : So K H (n + 1) v w := by
  obtain ⟨a, rfl, t, _⟩ := h
  obtain ⟨b, rfl, t', z⟩ := h'
  exact .inr ⟨a, b, _, _, rfl, rfl, t, t', so_ints n l, by rw [List.length_map]; exact z⟩
theorem pd_comp {α β γ : Type} {R : α → β → Prop} {S : γ → β → Prop} {U : α → γ → Prop} (h : ∀ a b c, R a b → S c b → U a c) : ∀ {xs : List α} {l : List β} {ys : List γ}, Paired R xs l → Paired S ys l → Paired U xs ys
  | _, _, _, .nil, .nil => .nil
  | _, _, _, .cons a t, .cons b u => .cons (h _ _ _ a b) (pd_comp h t u)
theorem so2 {K : PySem.W.Frag} {H : Hp} {v w : V} {l : List (List Int)} (h : T2 K H v l) (h' : T2 K H w l) (n : Nat) : So K H (n + 2) v w := by
  obtain ⟨a, xs, rfl, t, p, _⟩ := h
  obtain ⟨b, ys, rfl, t', p', z⟩ := h'
  exact .inr ⟨a, b, _, _, rfl, rfl, t, t', pd_comp (R := T1 K H) (S := T1 K H) (U := So K H (n + 1)) (fun _ _ _ q q' => so1 q q' n) p p', by rw [p'.length]; exact z⟩
theorem so3 {K : PySem.W.Frag} {H : Hp} {v w : V} {l : List (List (List Int))} (h : T3 K H v l) (h' : T3 K H w l) (n : Nat) : So K H (n + 3) v w := by
  obtain ⟨a, xs, rfl, t, p, _⟩ := h
  obtain ⟨b, ys, rfl, t', p', z⟩ := h'
  exact .inr ⟨a, b, _, _, rfl, rfl, t, t', pd_comp (R := T2 K H) (S := T2 K H) (U := So K H (n + 2)) (fun _ _ _ q q' => so2 q q' n) p p', by rw [p'.length]; exact z⟩
/-- a tuple is of the type tuple -/
theorem ty_tup {K : PySem.W.Frag} {H : Hp} {a : Addr} {xs : List V} (h : SqT K H a xs) : TyX K H (.ref a) (.type "tuple") := by
  rcases h with (h | ⟨o, h⟩) | ⟨o, its, n, h, hc, _⟩
  · exact .base (.tup h)
  · exact .fTuple h
  · exact .kTuple h hc
theorem ty_lst {K : PySem.W.Frag} {H : Hp} {a : Addr} {xs : List V} (h : SqL K H a xs) : TyX K H (.ref a) (.type "list") := by
  rcases h with (h | ⟨o, h⟩) | ⟨o, its, n, h, hc, _⟩
  · exact .base (.lst h)
  · exact .base (.frz h)
  · exact .kList h hc

/-! ### lists in the place of tuples -/
def I0 : Hp → V → Int → Prop := fun _ v i => v = .int i
def TL {α : Type} (K : PySem.W.Frag) (R : Hp → V → α → Prop) : Hp → V → List α → Prop := fun H v l => ∃ a xs, v = .ref a ∧ SqT K H a xs ∧ Paired (R H) xs l ∧ l.length ≤ 1000
def SL {α : Type} (K : PySem.W.Frag) (R : Hp → V → α → Prop) : Hp → V → List α → Prop := fun H v l => ∃ a xs, v = .ref a ∧ (SqL K H a xs ∨ SqT K H a xs) ∧ Paired (R H) xs l ∧ l.length ≤ 1000
def Mono {α : Type} (S : Hp → V → α → Prop) : Prop := ∀ H H' v x, Same H H' → S H v x → S H' v x
theorem I0.mono : Mono I0 := fun _ _ _ _ _ h => h
theorem SL.mono {α : Type} {K : PySem.W.Frag} {S : Hp → V → α → Prop} (m : Mono S) : Mono (SL K S) := fun H H' v x e ⟨a, xs, e1, t, p, z⟩ =>
  ⟨a, xs, e1, t.elim (fun t => .inl (e.seq t)) (fun t => .inr (Same.sqT e t)), L2.Paired.mapP p fun _ _ q => m _ _ _ _ e q, z⟩
theorem TL.mono {α : Type} {K : PySem.W.Frag} {S : Hp → V → α → Prop} (m : Mono S) : Mono (TL K S) := fun H H' v x e ⟨a, xs, e1, t, p, z⟩ =>
  ⟨a, xs, e1, Same.sqT e t, L2.Paired.mapP p fun _ _ q => m _ _ _ _ e q, z⟩
theorem TL.sl {α : Type} {K : PySem.W.Frag} {R S : Hp → V → α → Prop} {H : Hp} {v : V} {l : List α} (m : ∀ v x, R H v x → S H v x) (h : TL K R H v l) : SL K S H v l := by
  obtain ⟨a, xs, e1, t, p, z⟩ := h
  exact ⟨a, xs, e1, .inr t, L2.Paired.mapP p fun _ _ q => m _ _ q, z⟩
theorem pd_int {H : Hp} : ∀ {xs : List V} {l : List Int}, Paired (I0 H) xs l → xs = l.map V.int
  | _, _, .nil => rfl
  | _, _, .cons a t => by rw [pd_int t, show _ = _ from a]; rfl
theorem int_pd {H : Hp} : ∀ l : List Int, Paired (I0 H) (l.map V.int) l
  | [] => .nil
  | x :: r => .cons rfl (int_pd r)
theorem T1.tl {K : PySem.W.Frag} {H : Hp} {v : V} {l : List Int} (h : T1 K H v l) : TL K I0 H v l := by
  obtain ⟨a, e, t, z⟩ := h
  exact ⟨a, _, e, t, int_pd l, z⟩
theorem TL.t1 {K : PySem.W.Frag} {H : Hp} {v : V} {l : List Int} (h : TL K I0 H v l) : T1 K H v l := by
  obtain ⟨a, xs, e, t, p, z⟩ := h
  rw [pd_int p] at t
  exact ⟨a, e, t, z⟩
theorem T2.tl {K : PySem.W.Frag} {H : Hp} {v : V} {l : List (List Int)} (h : T2 K H v l) : TL K (TL K I0) H v l := by
  obtain ⟨a, xs, e, t, p, z⟩ := h
  exact ⟨a, _, e, t, L2.Paired.mapP p fun _ _ q => T1.tl q, z⟩
theorem TL.t2 {K : PySem.W.Frag} {H : Hp} {v : V} {l : List (List Int)} (h : TL K (TL K I0) H v l) : T2 K H v l := by
  obtain ⟨a, xs, e, t, p, z⟩ := h
  exact ⟨a, _, e, t, L2.Paired.mapP p fun _ _ q => TL.t1 q, z⟩
theorem T3.tl {K : PySem.W.Frag} {H : Hp} {v : V} {l : List (List (List Int))} (h : T3 K H v l) : TL K (TL K (TL K I0)) H v l := by
  obtain ⟨a, xs, e, t, p, z⟩ := h
  exact ⟨a, _, e, t, L2.Paired.mapP p fun _ _ q => T2.tl q, z⟩
/-- what is new at H' -/
def New (H H' : Hp) : Hp := fun b => if (H b).isSome = true then none else H' b
/-- .. but D -/
def Wo (D : Addr) (H H' : Hp) : Hp := fun b => if b = D ∨ (H b).isSome = true then none else H' b
theorem New.le {H H' : Hp} : Same (New H H') H' := fun b o e => by
  unfold New at e
  split at e
  · cases e
  · exact e
theorem New.at_ {H H' : Hp} {b : Addr} (h : H b = none) : New H H' b = H' b := by
  unfold New
  rw [h]
  exact if_neg Bool.false_ne_true
theorem Wo.le {D : Addr} {H H' : Hp} : Same (Wo D H H') (New H H') := fun b o e => by
  unfold Wo at e
  unfold New
  split at e
  · cases e
  · rename_i n
    rw [if_neg fun z => n (.inr z)]
    exact e
theorem Wo.grow {D : Addr} {H H' H'' : Hp} {o : HO} (e : Same H' H'') : Same (Wo D H H') (Wo D H (upd H'' D o)) := fun b u q => by
  unfold Wo at q ⊢
  split at q
  · cases q
  · rename_i n
    rw [if_neg n, upd_ne fun z => n (.inl z)]
    exact e b u q
theorem New.wo {D : Addr} {H H' H'' : Hp} {o u : HO} (e : Same H H') (hD : H' D = some u) : Same (New H' H'') (Wo D H (upd H'' D o)) := fun b z q => by
  unfold New at q
  split at q
  · cases q
  · rename_i n
    have nb : b ≠ D := fun w => n (by rw [w, hD]; rfl)
    unfold Wo
    rw [if_neg, upd_ne nb]
    · exact q
    · rintro (w | w)
      · exact nb w
      · obtain ⟨x, hx⟩ := Option.isSome_iff_exists.mp w
        exact n (by rw [e b x hx]; rfl)
def spLo {α : Type} (R S : Hp → V → α → Prop) (L : Hp → Hp → V → Prop) : Sp := fun vs H Q _ => ∃ (v : V) (x : α) (t : Int), vs = [v, .int t] ∧ R H v x ∧ ∀ w H', Same H H' → S (New H H') w x → (t % 2 = 0 → L H H' w) → Q w H'
def Lnew : Hp → Hp → V → Prop := fun H H' w => ∃ b ys, w = .ref b ∧ H b = none ∧ H' b = some (.lst ys)

/-! ### the promises of the law's helpers -/
def spSo (K : PySem.W.Frag) (n : Nat) : Sp := fun vs H Q _ => ∃ v w, vs = [v, w] ∧ So K H n v w ∧ Q (.bl true) H
def spNumbers (K : PySem.W.Frag) : Sp := fun vs H Q _ => ∃ (a : Addr) (ns : List Int), vs = [.ref a] ∧ SqL K H a (ns.map V.int) ∧ ns.length ≤ 63 ∧ ∀ p H', Same H H' → H p = none → Row H' p → Q (.ref p) H'
def spDraw : Sp := fun vs H Q _ => ∃ (a : Addr) (n m : Int), vs = [.ref a, .int n, .int m] ∧ Row H a ∧ 0 ≤ n ∧ 0 < m ∧ ∀ r : Int, 0 ≤ r → r < m → Q (.int r) H
def spTake : Sp := fun vs H Q _ => ∃ (a s : Addr) (m : Int), vs = [.ref a, .ref s, .int m] ∧ RS H a s ∧ 0 < m ∧ ∀ (r : Int) H', 0 ≤ r → r < m → Dr s H H' → Q (.int r) H'
/-! ### what the program asks of a value -/
/-- v is known: none, a truth value, a number, a text (then it is no sequence), or a sequence of xs -/
inductive Vw (K : PySem.W.Frag) (H : Hp) : V → Option (List V) → Prop where
  | non : Vw K H .non none
  | bl (b : Bool) : Vw K H (.bl b) none
  | int (i : Int) : Vw K H (.int i) none
  | str (s : Str) : Vw K H (.str s) none
  | lst {a : Addr} {xs : List V} (h : SqL K H a xs) : Vw K H (.ref a) (some xs)
  | tup {a : Addr} {xs : List V} (h : SqT K H a xs) : Vw K H (.ref a) (some xs)
theorem Vw.same {K : PySem.W.Frag} {H H' : Hp} {v : V} {o : Option (List V)} (e : Same H H') (h : Vw K H v o) : Vw K H' v o := by
  cases h with
  | non => exact .non
  | bl b => exact .bl b
  | int i => exact .int i
  | str s => exact .str s
  | lst h => exact .lst (e.seq h)
  | tup h => exact .tup (Same.sqT e h)
def isI : V → Bool
  | .int _ => true
  | _ => false
def inW : V → Int → Int → Bool
  | .int i, lo, hi => decide (lo ≤ i) && decide (i ≤ hi)
  | _, _, _ => false
def lenW : Option (List V) → Int → Int → Bool
  | some xs, lo, hi => decide (lo ≤ (xs.length : Int)) && decide ((xs.length : Int) ≤ hi)
  | none, _, _ => false
def allW : Option (List V) → Int → Int → Bool
  | some xs, lo, hi => xs.all fun x => inW x lo hi
  | none, _, _ => false
/-- ascending numbers from lo, below many -/
def ascW : List V → Int → Int → Bool
  | [], _, _ => true
  | x :: r, lo, many => inW x lo (many - 1) && ascW r (match x with | .int i => i + 1 | _ => 0) many
def ascO : Option (List V) → Int → Bool
  | some xs, many => ascW xs 0 many
  | none, _ => false
def spIsI (K : PySem.W.Frag) : Sp := fun vs H Q _ => ∃ v o, vs = [v] ∧ Vw K H v o ∧ Q (.bl (isI v)) H
def spIsW (K : PySem.W.Frag) : Sp := fun vs H Q _ => ∃ v o lo hi, vs = [v, .int lo, .int hi] ∧ Vw K H v o ∧ Q (.bl (inW v lo hi)) H
def spIsS (K : PySem.W.Frag) : Sp := fun vs H Q _ => ∃ v o, vs = [v] ∧ Vw K H v o ∧ ∀ H', Same H H' → Q (.bl o.isSome) H'
def spLen (K : PySem.W.Frag) : Sp := fun vs H Q _ => ∃ v o lo hi, vs = [v, .int lo, .int hi] ∧ Vw K H v o ∧ ∀ H', Same H H' → Q (.bl (lenW o lo hi)) H'
def spAre (K : PySem.W.Frag) : Sp := fun vs H Q _ => ∃ v o lo hi, vs = [v, .int lo, .int hi] ∧ Vw K H v o ∧ (∀ xs, o = some xs → xs.length ≤ 1000 ∧ ∀ x ∈ xs, ∃ o', Vw K H x o') ∧ ∀ H', Same H H' → Q (.bl (allW o lo hi)) H'
def spAsc (K : PySem.W.Frag) : Sp := fun vs H Q _ => ∃ v o many, vs = [v, .int many] ∧ Vw K H v o ∧ (∀ xs, o = some xs → ∀ x ∈ xs, ∃ o', Vw K H x o') ∧ ∀ H', Same H H' → Q (.bl (ascO o many)) H'

def intOf : V → Int
  | .int z => z
  | _ => 0
def isTask : Option (List V) → Bool
  | some [u, p] => inW p 0 10000 && inW u 0 (intOf p)
  | _ => false
def isPair : Option (List V) → Int → Bool
  | some [a, b], n => inW a 0 (n - 1) && inW b 0 (n - 1) && decide (intOf a ≠ intOf b)
  | _, _ => false
def isArc : Option (List V) → Int → Int → Bool
  | some [a, b], n, m => inW a 0 (n - 1) && inW b 0 (m - 1)
  | _, _, _ => false
def isSlips : V → Bool
  | .non => true
  | v => inW v 0 8
/-- the items of a sequence are known, too -/
def Kn (K : PySem.W.Frag) (H : Hp) (o : Option (List V)) : Prop := ∀ xs, o = some xs → xs.length ≤ 1000 ∧ ∀ x ∈ xs, ∃ o', Vw K H x o'
theorem Kn.same {K : PySem.W.Frag} {H H' : Hp} {o : Option (List V)} (e : Same H H') (h : Kn K H o) : Kn K H' o := fun xs q => ⟨(h xs q).1, fun x hx => let ⟨o', z⟩ := (h xs q).2 x hx; ⟨o', z.same e⟩⟩
def spSlips (K : PySem.W.Frag) : Sp := fun vs H Q _ => ∃ v o, vs = [v] ∧ Vw K H v o ∧ Q (.bl (isSlips v)) H
def spTask (K : PySem.W.Frag) : Sp := fun vs H Q _ => ∃ v o, vs = [v] ∧ Vw K H v o ∧ Kn K H o ∧ ∀ H', Same H H' → Q (.bl (isTask o)) H'
def spPair (K : PySem.W.Frag) : Sp := fun vs H Q _ => ∃ v o n, vs = [v, .int n] ∧ Vw K H v o ∧ Kn K H o ∧ ∀ H', Same H H' → Q (.bl (isPair o n)) H'
def spArc (K : PySem.W.Frag) : Sp := fun vs H Q _ => ∃ v o n m, vs = [v, .int n, .int m] ∧ Vw K H v o ∧ Kn K H o ∧ ∀ H', Same H H' → Q (.bl (isArc o n m)) H'
theorem inW_int {v : V} {lo hi : Int} (h : inW v lo hi = true) : ∃ i, v = .int i ∧ lo ≤ i ∧ i ≤ hi := by
  cases v with
  | int i =>
    have h' : (decide (lo ≤ i) && decide (i ≤ hi)) = true := h
    simp at h'
    exact ⟨i, rfl, h'.1, h'.2⟩
  | _ => cases h
theorem inW_of {i lo hi : Int} (h1 : lo ≤ i) (h2 : i ≤ hi) : inW (.int i) lo hi = true := by
  show (decide (lo ≤ i) && decide (i ≤ hi)) = true
  rw [decide_eq_true h1, decide_eq_true h2]
  rfl
theorem hu65 {k : Nat} {A : Around} (r : Room k A) : A.units + 65 < cLine := by
  have := r.un
  omega

/-! ### a def of the text, and its promise -/
structure Df (K : PySem.W.Frag) (mg : Str → Option Value) (x : Str) (st : Stmt) (ps : List Str) : Prop where
  ex : ∃ (f : Addr) (fd : FuncData), Fun K x x st f fd ∧ mg x = some (.ref f) ∧ Binds K fd ps []
theorem Df.cal {P : Program} {w : World} {K : PySem.W.Frag} {mg : Str → Option Value} {base : Heap} {x : Str} {st : Stmt} {N ps : List Str} {k : Nat} {sp : Sp} (D : Df K mg x st ps) (S : FnScope N ps (defScope st)) (len : ∀ vs H Q E, sp vs H Q E → vs.length = ps.length)
    (hbody : ∀ (f : Addr) (cdv : Value) (A : Around) (outer : List Env) (s : Shared) (H : Hp) (vs : List V) (Q : VK) (E : XK), Room k (A.deeper (envOfC x (defScope st) s.heap.objs.size f cdv)) → sp vs H Q E →
      ∃ t, PSs (cxOf CX0 P w K mg base N x (defScope st) f cdv A outer s H E).nox (defBody st) t ∧ t { nx := fun _ H' => Q .non H', rt := Q } (start N vs) H) : C8.Cal P w K mg base (k + 1) x sp [] := by
  obtain ⟨f, fd, F, g, b⟩ := D.ex
  exact ⟨f, fd, ps, [], F.ok S len (hbody f), g, F.kp, b, .nil⟩
theorem df_mk {K : PySem.W.Frag} {h : Heap} {mg : Str → Option Value} {x : Str} {st : Stmt} {ps : List Str} {f : Addr} {oc : Value} {od an : Option Addr} {osl : Array (Option Value)} {kV doc pm cdv ct : Value} (X : K.In h) (G : h.Ns mainGlobals mg)
    (b : ∀ (kV doc pm : Value) (an : Option Addr) (cdv ct : Value) (us : List Value), us.length = ps.length → bindArgs (PySem.W.fnOf x x (defArgs st) (defBody st) (defScope st) .none kV doc pm an cdv ct) ⟨us, []⟩ = pure (ps.zip us))
    (a : PySem.W.nsIn K mainGlobals x = some (some (.ref f))) (l : K.lookup f = some ⟨oc, od, .func (PySem.W.fnOf x x (defArgs st) (defBody st) (defScope st) .none kV doc pm an cdv ct), osl⟩) (c : PySem.W.codeIn K cdv x = true) (k : PySem.W.keepIn K (.ref f) = true) : Df K mg x st ps := by
  have F := fun_mk (st := st) l c k
  exact ⟨f, _, F, PySem.W.mg_of X G a, F.binds b⟩
end Aq
set_option maxHeartbeats 4000000
/-! for i, x in enumerate(t), t a tuple: as the layer has it for a list -/
namespace Aq
open PySem PySem.Spec PyProof.Rows L2
theorem enumT_made (t : Addr) (items : Array Value) : Meets (Builtin.«enumerate.__new__» ⟨[.type "enumerate", .ref t], []⟩) (fun _ R s => s.heap.IsTuple t items ∧
    R (.ok (.ret (.ref (s.heap.push { cls := .type "tuple_iterator", data := .fields #[.ref t, .int 0 0] }).objs.size))) { s with heap := (s.heap.push { cls := .type "tuple_iterator", data := .fields #[.ref t, .int 0 0] }).push { cls := .type "enumerate", data := .fields #[.none, .bool false, .ref s.heap.objs.size, rawInt 0, .none, .none] } }) :=
  Meets.of_wp fun prog w A R s hh => by
    obtain ⟨hp, g, d, tk, os⟩ := s
    obtain ⟨hT, hR⟩ := hh
    have hsub : isSubtype (.type "enumerate") (.type "enumerate") = pure true := sub_enumerate
    have q1 : ∀ {A' : Around} {E : Value → Shared → Prop} {Q : Value → Shared → Prop}, Q (.ref hp.objs.size) ⟨hp.push { cls := .type "tuple_iterator", data := .fields #[.ref t, .int 0 0] }, g, d, tk, os⟩ →
        wpAny (model prog w) A' (pyIter (.ref t)) Q E ⟨hp, g, d, tk, os⟩ := fun q => wpAny_pyIter_tuple hT q
    wp_walk using q1
    refine wpAny_stack_any fun st => (wpAny_pure ?_)
    split
    · rename_i c _ _ _ _ _
      cases (c == Value.type "enumerate") <;> (wp_walk using q1; exact ⟨_, rfl, hR⟩)
    · (wp_walk using q1; exact ⟨_, rfl, hR⟩)
theorem enumT_call {prog : Program} {w : World} {A : Around} {E : Value → Shared → Prop} {s : Shared} {t : Addr} {items : Array Value} {Q : Value → Shared → Prop} (hT : s.heap.IsTuple t items)
    (h : ∀ h', IsEnum h' (s.heap.objs.size + 1) s.heap.objs.size 0 .none → h'.IsTupleIter s.heap.objs.size t 0 → (∀ b o, s.heap.get? b = some o → h'.get? b = some o) → Q (.ref (s.heap.objs.size + 1)) { s with heap := h' }) :
    wpAny (model prog w) A (call (.type "enumerate") [.ref t]) Q E s := by
  refine callType_new F.called_enumerate (by decide) (F.typeCall_enumerate_1 _) (F.newCall_enumerate_1 _) (fun obj => F.args_object_init_2 obj _) F.entry_enumerate_new (enumT_made t items) ⟨hT, ?_⟩
  have hz : (s.heap.push { cls := .type "tuple_iterator", data := .fields #[.ref t, .int 0 0] }).objs.size = s.heap.objs.size + 1 := Heap.size_push ..
  show _ ∧ _
  rw [hz]
  have he : IsEnum ((s.heap.push { cls := .type "tuple_iterator", data := .fields #[.ref t, .int 0 0] }).push { cls := .type "enumerate", data := .fields #[.none, .bool false, .ref s.heap.objs.size, rawInt 0, .none, .none] }) (s.heap.objs.size + 1) s.heap.objs.size 0 .none := by
    have z := Heap.get?_push_size (s.heap.push { cls := .type "tuple_iterator", data := .fields #[.ref t, .int 0 0] }) (o := { cls := .type "enumerate", data := .fields #[.none, .bool false, .ref s.heap.objs.size, rawInt 0, .none, .none] }) rfl
    rw [hz] at z
    exact z
  exact ⟨⟨_, he, rfl⟩, h _ he ⟨_, Heap.get?_push_of_some _ (Heap.get?_push_size _ rfl), rfl, rfl⟩ fun b o x => Heap.get?_push_of_some _ (Heap.get?_push_of_some _ x)⟩
/-- the tuple at a, each item in a new pair -/
def IteT (K : PySem.W.Frag) (a : Addr) : It where
  go := fun i H => ∃ (xs : List V) (x : V), SqT K H a xs ∧ xs[i]? = some x
  yld := fun i H v H' => ∃ T x, v = .ref T ∧ H T = none ∧ H' = upd H T (.tup [.int (i : Nat), x]) ∧ ∀ xs, SqT K H a xs → xs[i]? = some x
  stop := fun i H => ∃ xs : List V, SqT K H a xs ∧ xs.length ≤ i
theorem turn_enumT {P : Program} {w : World} {K : PySem.W.Frag} {elts : List Expr} {kk : Nat} {tpos : Pos} (a e it : Addr) (hae : a ≠ e) (hai : a ≠ it) :
    Turn P w K (.Tuple elts kk tpos) (IteT K a) [e, it] e (fun i h => (∃ old, IsEnum h e it ((i : Nat) : Int) old) ∧ h.IsTupleIter it a i ∧ e ≠ it) where
  mem := by simp
  obj := fun i h st b hb => by
    obtain ⟨⟨old, he⟩, ⟨o, ho, hc, hd⟩, _⟩ := st
    rcases (show b = e ∨ b = it by simpa using hb) with rfl | rfl
    · exact ⟨_, he, fun v q => nomatch q⟩
    · exact ⟨o, ho, fun v q => by rw [hd] at q; cases q⟩
  keep := fun i h h' st k => by
    obtain ⟨⟨old, he⟩, hi, hne⟩ := st
    exact ⟨⟨old, k e (by simp) _ he⟩, hi.at fun o q => k it (by simp) o q, hne⟩
  item := by
    intro X hP hw hK hc i pins s σ H E I hf st hg
    subst hP hw hK
    obtain ⟨⟨old, he⟩, hit, hne⟩ := st
    obtain ⟨xs, x, hq, hx⟩ := hg
    obtain ⟨its, rv, p, hz⟩ := I.tuple hq
    obtain ⟨u, hu, ru⟩ := rv.get hx
    have hel : e < s.heap.objs.size := Heap.lt_size he
    have hil : it < s.heap.objs.size := by
      obtain ⟨_, q, _⟩ := hit
      exact Heap.lt_size q
    have hlt : i < its.toArray.size := by
      have z := (List.getElem?_eq_some_iff.mp hu).1
      simpa using z
    refine wpAny_pyNext_enum_itemD (Draws.tuple (prog := X.prog) (w := X.w) (A := X.A.in1) (I.ok.hd hc) it a hai its.toArray) he ⟨hit, (show s.heap.IsTuple a its.toArray from p)⟩ hlt hne (by simp [hne, Ne.symm hae]) fun y h' tk hy ho hst hT hsz hk => ?_
    obtain rfl : y = u := by
      have z : its.toArray[i]? = some u := by simpa using hu
      exact Option.some.inj (hy.symm.trans z)
    refine ⟨_, rfl, wpAny_letOwnedTupleGo_enum (s := { s with heap := h', toks := tk + 1 }) ho fun h'' he' sb => ?_⟩
    have hT2 : h''.get? s.heap.objs.size = some { cls := .type "tuple", data := .seq #[.int i tk, y] } := (sb.2 _ (Nat.ne_of_gt hel)).trans hT
    have new : ObjOk X.prog X.w (upd H s.heap.objs.size (.tup [.int (i : Nat), x])) h'' s.heap.objs.size (.tup [.int (i : Nat), x]) := ⟨by show 2 ≤ sizeLine; decide, [.int i tk, y], .cons ⟨_, rfl⟩ (.cons ru .nil), ⟨_, hT2, rfl, _, rfl⟩⟩
    have I1 : Inv X pins σ (upd H s.heap.objs.size (.tup [.int (i : Nat), x])) { s with heap := h'', toks := tk + 1 } := by
      refine I.turnedNew (ch := [e, it]) (fun b ob hb q => ?_) hf (Nat.le_refl _) new
      have n1 : b ≠ e := fun z => hb (by simp [z])
      have n2 : b ≠ it := fun z => hb (by simp [z])
      exact (sb.2 b n1).trans (hk b ob n1 n2 q)
    refine ⟨.ref s.heap.objs.size, _, I1, rfl, ⟨_, x, rfl, I.hok.fresh (Nat.le_refl _), rfl, fun ys hy => ?_⟩, ⟨⟨y, ?_⟩, ?_, hne⟩, fun b hb => ?_⟩
    · rw [I.tuple_inj hy hq]
      exact hx
    · have e1 : ((i + 1 : Nat) : Int) = (i : Int) + 1 := by omega
      rw [e1]
      exact he'
    · exact hst.1.at fun o q => (sb.2 it (Ne.symm hne)).trans q
    · have hb' : b < s.heap.objs.size := by
        rcases (show b = e ∨ b = it by simpa using hb) with rfl | rfl
        · exact hel
        · exact hil
      rw [upd_ne (Nat.ne_of_lt hb')]
      exact (hf b hb).1
  done := by
    intro X hP hw hK hc i pins s σ H E I hf st hg
    subst hP hw hK
    obtain ⟨⟨old, he⟩, hit, hne⟩ := st
    obtain ⟨xs, hq, hx⟩ := hg
    obtain ⟨its, rv, p, hz⟩ := I.tuple hq
    obtain ⟨f0, f1, f2, f3, f4, f5⟩ := hf it (by simp)
    have hl := rv.length
    have hT : s.TypeIs (.ref e) "enumerate" := ⟨_, he, rfl⟩
    unfold pyNext
    refine wpAny_bind (wpAny_attempt (wpAny_callSpecial?_slot (name := Str.ofString "__next__") hT F.slot_enumerate_next (wpAny_call_entry F.slot_enumerate_next hT F.entry_enumerate_next ?_ (F.args_enumerate_next_1 _))))
    show wpAny _ _ (field (.ref e) 2 >>= _) _ _ _
    refine wpAny_bind (wpAny_field he rfl (x := .ref it) rfl ?_)
    refine wpAny_bind (wpAny_nextOf_tuple_end (I.ok.hd hc) hit (show s.heap.IsTuple a its.toArray from p) (by simp; omega) fun h' x he' hx' => ?_)
    obtain ⟨o, ho, hcl⟩ := hx'
    refine wpAny_bind (wpAny_isInstance (T := "StopIteration") (b := true) ⟨o, ho, hcl⟩ isSubtype_stop (wpAny_pure ?_))
    exact ⟨rfl, I.turned (t' := s.toks) (fun b o hb q => he' b o hb q) f0 f1 f3 f4 f5⟩
  self := fun A i s Q E st h => by
    obtain ⟨⟨_, he⟩, _⟩ := st
    exact wpAny_pyIter_enum he h
def iEnumT (K : PySem.W.Frag) (ta : TA) : TI := fun σ H R => ta σ H fun vs H1 => ∃ a xs, vs = [.ref a] ∧ SqT K H1 a xs ∧ R (IteT K a) H1
theorem pi_enumT {X : Cx} {e : Expr} {ta : TA} {p pos tpos : Pos} {elts : List Expr} {kk : Nat} (hg : Gl X "enumerate") (hm : X.mg "enumerate" = none) (ha : PA X [e] ta) (hs : starEach [e] X.env = [(false, eval e X.env)] := by rfl) :
    PI X (.Tuple elts kk tpos) (.Call (.Name "enumerate" p) [e] [] pos) (iEnumT X.K ta) := by
  refine ⟨fun pins s σ H R I h => Call_ (ld_blt I hg hm boot_enumerate (PyProof.Rows.callWith_type1 (thn (ha.run pos pins s σ H _ I h) fun us s1 hh => ?_) hs rfl))⟩
  obtain ⟨vs, H1, I1, r1, a, xs, ex, hq, q⟩ := hh
  subst ex
  cases r1 with
  | cons r rr =>
    cases rr
    cases r
    obtain ⟨its, rv, p', hz⟩ := I1.tuple hq
    have hal : a < s1.heap.objs.size := p'.lt
    refine enumT_call (show s1.heap.IsTuple a its.toArray from p') fun h' he hit hk => wpAny_pyIter_enum he ?_
    have I2 : Inv X pins σ H1 { s1 with heap := h' } := I1.kept (t' := s1.toks) hk
    refine ⟨s1.heap.objs.size + 1, [s1.heap.objs.size + 1, s1.heap.objs.size], _, _, H1, rfl, I2, turn_enumT a (s1.heap.objs.size + 1) s1.heap.objs.size (Nat.ne_of_lt (Nat.lt_succ_of_lt hal)) (Nat.ne_of_lt hal), ⟨⟨.none, he⟩, hit, Nat.succ_ne_self _⟩, fun b hb => ?_, q⟩
    have hle : s1.heap.objs.size ≤ b := by
      rcases (show b = s1.heap.objs.size + 1 ∨ b = s1.heap.objs.size by simpa using hb) with z | z
      · rw [z]
        exact Nat.le_succ _
      · rw [z]
        exact Nat.le_refl _
    exact I1.fpOk hle (I1.hok.fresh hle)
theorem walk_enumT {K : PySem.W.Frag} {a : Addr} {xs : List V} : Walk (IteT K a) xs.length (fun H => SqT K H a xs) (YPair (fun i => some (.int (i : Nat))) (fun i => xs[i]?)) := by
  refine ⟨fun i _ hi q => ⟨xs, xs[i], q, List.getElem?_eq_getElem hi⟩, fun _ q => ⟨xs, q, Nat.le_refl _⟩, fun i H v H' _ q y => ?_⟩
  obtain ⟨T, x, h1, h2, h3, h4⟩ := y
  exact ⟨T, .int (i : Nat), x, h1, h2, h3, rfl, h4 xs q⟩
end Aq
set_option maxHeartbeats 4000000
/-! what a for walks: a list or a tuple, whichever comes -/
namespace Aq
open PySem PySem.Spec PyProof.Rows L2
def iSeq (K : PySem.W.Frag) (tl : TE) : TI := fun σ H R => tl σ H fun x H1 => ∃ a xs, x = .ref a ∧ ((SqL K H1 a xs ∧ R (Itl K a) H1) ∨ (SqT K H1 a xs ∧ R (Itt K a) H1))
theorem pi_seq {X : Cx} {tg l : Expr} {tl : TE} (hl : PE X l tl) : PI X tg l (iSeq X.K tl) := by
  refine ⟨fun pins s σ H R I h => thn (hl.run pins s σ H _ I h) fun v s1 hh => ?_⟩
  obtain ⟨x, H1, I1, r1, a, xs, rfl, hq⟩ := hh
  cases r1
  have fp : ∀ b ∈ [s1.heap.objs.size], FpOk X pins H1 b := fun b hb => by
    rw [List.mem_singleton.mp hb]
    exact I1.fpOk (Nat.le_refl _) (I1.hok.fresh (Nat.le_refl _))
  rcases hq with ⟨hq, q⟩ | ⟨hq, q⟩
  · obtain ⟨its, rv, p, hz⟩ := I1.list hq
    exact wpAny_pyIter_list p.isList ⟨s1.heap.objs.size, [s1.heap.objs.size], _, _, H1, rfl, I1.kept (t' := s1.toks) fun b o e => Heap.get?_push_of_some _ e, turn_list a _, ⟨_, Heap.get?_push_size _ rfl, rfl, rfl⟩, fp, q⟩
  · obtain ⟨its, rv, p, hz⟩ := I1.tuple hq
    exact wpAny_pyIter_tuple (show s1.heap.IsTuple a its.toArray from p) ⟨s1.heap.objs.size, [s1.heap.objs.size], _, _, H1, rfl, I1.kept (t' := s1.toks) fun b o e => Heap.get?_push_of_some _ e, turn_tuple a _, ⟨_, Heap.get?_push_size _ rfl, rfl, rfl⟩, fp, q⟩
def iEnumS (K : PySem.W.Frag) (ta : TA) : TI := fun σ H R => ta σ H fun vs H1 => ∃ a xs, vs = [.ref a] ∧ ((SqL K H1 a xs ∧ R (Ite K a) H1) ∨ (SqT K H1 a xs ∧ R (IteT K a) H1))
theorem pi_enumS {X : Cx} {e : Expr} {ta : TA} {p pos tpos : Pos} {elts : List Expr} {kk : Nat} (hg : Gl X "enumerate") (hm : X.mg "enumerate" = none) (ha : PA X [e] ta) (hs : starEach [e] X.env = [(false, eval e X.env)] := by rfl) :
    PI X (.Tuple elts kk tpos) (.Call (.Name "enumerate" p) [e] [] pos) (iEnumS X.K ta) := by
  refine ⟨fun pins s σ H R I h => Call_ (ld_blt I hg hm boot_enumerate (PyProof.Rows.callWith_type1 (thn (ha.run pos pins s σ H _ I h) fun us s1 hh => ?_) hs rfl))⟩
  obtain ⟨vs, H1, I1, r1, a, xs, ex, hq⟩ := hh
  subst ex
  cases r1 with
  | cons r rr =>
    cases rr
    cases r
    have fp : ∀ b ∈ [s1.heap.objs.size + 1, s1.heap.objs.size], FpOk X pins H1 b := fun b hb => by
      have hle : s1.heap.objs.size ≤ b := by
        rcases (show b = s1.heap.objs.size + 1 ∨ b = s1.heap.objs.size by simpa using hb) with z | z
        · rw [z]
          exact Nat.le_succ _
        · rw [z]
          exact Nat.le_refl _
      exact I1.fpOk hle (I1.hok.fresh hle)
    rcases hq with ⟨hq, q⟩ | ⟨hq, q⟩
    · obtain ⟨its, rv, p', hz⟩ := I1.list hq
      refine call_enumerate_list p'.isList fun h' he hit hsz hk => wpAny_pyIter_enum he ?_
      have I2 : Inv X pins σ H1 { s1 with heap := h' } := I1.kept (t' := s1.toks) hk
      exact ⟨s1.heap.objs.size + 1, [s1.heap.objs.size + 1, s1.heap.objs.size], _, _, H1, rfl, I2, turn_enum a (s1.heap.objs.size + 1) s1.heap.objs.size, ⟨⟨.none, he⟩, hit, Nat.succ_ne_self _⟩, fp, q⟩
    · obtain ⟨its, rv, p', hz⟩ := I1.tuple hq
      have hal : a < s1.heap.objs.size := p'.lt
      refine enumT_call (show s1.heap.IsTuple a its.toArray from p') fun h' he hit hk => wpAny_pyIter_enum he ?_
      have I2 : Inv X pins σ H1 { s1 with heap := h' } := I1.kept (t' := s1.toks) hk
      exact ⟨s1.heap.objs.size + 1, [s1.heap.objs.size + 1, s1.heap.objs.size], _, _, H1, rfl, I2, turn_enumT a (s1.heap.objs.size + 1) s1.heap.objs.size (Nat.ne_of_lt (Nat.lt_succ_of_lt hal)) (Nat.ne_of_lt hal), ⟨⟨.none, he⟩, hit, Nat.succ_ne_self _⟩, fp, q⟩
/-- a, b, .. = a list or a tuple -/
def gSeq (K : PySem.W.Frag) (n : Nat) (t : TGs) : TG := fun v σ H Q => ∃ a xs, v = .ref a ∧ (SqL K H a xs ∨ SqT K H a xs) ∧ xs.length = n ∧ t xs σ H Q
theorem pg_seq {X : Cx} {pos : Pos} {es : List Expr} {k : Nat} {t : TGs} {n : Nat} (hc : X.calm = true) (h : PGs X es t) (hn : (assignEach es X.env).length = n := by rfl) (hst : (assignEach es X.env).findIdx? (·.1) = none := by rfl) : PG X (.Tuple es k pos) (gSeq X.K n t) := by
  refine ⟨fun pins s σ H v u Q I r hw => ?_⟩
  obtain ⟨a, xs, e, hs, hl, q⟩ := hw
  rcases hs with hs | hs
  · exact (pg_unl hc h hn hst).run pins s σ H v u Q I r ⟨a, xs, e, hs, hl, q⟩
  · exact (pg_tup hc h hn hst).run pins s σ H v u Q I r ⟨a, xs, e, hs, hl, q⟩
/-! the loops over it -/
def SqA (K : PySem.W.Frag) (H : Hp) (a : Addr) (xs : List V) : Prop := SqL K H a xs ∨ SqT K H a xs
theorem SqA.same {K : PySem.W.Frag} {H H' : Hp} {a : Addr} {xs : List V} (e : Same H H') (h : SqA K H a xs) : SqA K H' a xs := h.elim (fun z => .inl (e.seq z)) fun z => .inr (Same.sqT e z)
section
variable {K : PySem.W.Frag} {a : Addr} {xs : List V} {g : TG} {tb : TS} {D : Ends} {σ : L2.St} {H0 H : Hp} {te : TE} {tt : TT} {vs : List Nat} {i : Nat}
theorem for_seq {tl : TE} (hl : ∀ Q : VK, Q (.ref a) H → tl σ H Q) (h : SqA K H0 a xs) (h00 : Same H0 H) (Pv : Nat → L2.St → Hp → Prop) (h0 : Pv 0 σ H) (hsame : ∀ i σ' H', Pv i σ' H' → Same H0 H')
    (hs : ∀ i x σ' H', xs[i]? = some x → Pv i σ' H' → g x σ' H' fun σ2 H2 => tb { D with nx := Pv (i + 1), ct := Pv (i + 1), bk := D.nx } σ2 H2) (hd : ∀ σ' H', Pv xs.length σ' H' → D.nx σ' H') : tFor (iSeq K tl) g tb D σ H :=
  hl _ ⟨a, xs, rfl, h.elim (fun z => .inl ⟨h00.seq z, for_list Pv h0 (fun i σ' H' _ p => (hsame i σ' H' p).seq z) hs hd⟩) fun z => .inr ⟨Same.sqT h00 z, for_tup Pv h0 (fun i σ' H' _ p => Same.sqT (hsame i σ' H' p) z) hs hd⟩⟩
theorem for_enum {ta : TA} (hl : ∀ Q : List V → Hp → Prop, Q [.ref a] H → ta σ H Q) (h : SqA K H0 a xs) (h00 : Same H0 H) (Pv : Nat → L2.St → Hp → Prop) (h0 : Pv 0 σ H) (hsame : ∀ i σ' H', Pv i σ' H' → Same H0 H')
    (hs : ∀ (i : Nat) (x : V) σ' H' T, xs[i]? = some x → Pv i σ' H' → H' T = none → g (.ref T) σ' (upd H' T (.tup [.int (i : Nat), x])) fun σ2 H2 => tb { D with nx := Pv (i + 1), ct := Pv (i + 1), bk := D.nx } σ2 H2) (hd : ∀ σ' H', Pv xs.length σ' H' → D.nx σ' H') : tFor (iEnumS K ta) g tb D σ H := by
  have turn : ∀ i x σ' H' H'', i < xs.length → Pv i σ' H' → YPair (fun i => some (.int (i : Nat))) (fun i => xs[i]?) i H' x H'' → g x σ' H'' fun σ2 H2 => tb { D with nx := Pv (i + 1), ct := Pv (i + 1), bk := D.nx } σ2 H2 := fun i x σ' H' H'' hi p y => by
    obtain ⟨T, x1, x2, rfl, nT, rfl, e1, e2⟩ := y
    cases Option.some.inj e1
    exact hs i x2 σ' H' T e2 p nT
  exact hl _ ⟨a, xs, rfl, h.elim (fun z => .inl ⟨h00.seq z, for_it walk_enum Pv h0 (fun i σ' H' _ p => (hsame i σ' H' p).seq z) turn hd⟩) fun z => .inr ⟨Same.sqT h00 z, for_it walk_enumT Pv h0 (fun i σ' H' _ p => Same.sqT (hsame i σ' H' p) z) turn hd⟩⟩
theorem lc_seq {tl : TE} {Q : VK} (hl : ∀ Q : VK, Q (.ref a) H → tl σ H Q) (h : SqA K H0 a xs) (h00 : Same H0 H) (Pv : Addr → Nat → Hp → Prop) (h0 : ∀ D, H D = none → Pv D 0 (upd H D (.lst []))) (hsame : ∀ D i H', Pv D i H' → Same H0 H')
    (hs : ∀ D i x H', xs[i]? = some x → Pv D i H' → g x (wipe σ vs) H' fun σ2 H2 => wipe σ2 vs = wipe σ vs ∧ tt σ2 H2 fun b H3 =>
      if b = true then te σ2 H3 fun y H4 => ∃ acc, H4 D = some (.lst acc) ∧ acc.length < sizeLine ∧ Pv D (i + 1) (upd H4 D (.lst (acc ++ [y]))) else Pv D (i + 1) H3) (hd : ∀ D H', Pv D xs.length H' → Q (.ref D) H') : tLc (iSeq K tl) g tt te vs σ H Q :=
  hl _ ⟨a, xs, rfl, h.elim (fun z => .inl ⟨h00.seq z, fun D hD => lc_list (Pv D) (h0 D hD) (fun i H' _ p => (hsame D i H' p).seq z) (hs D) (hd D)⟩) fun z => .inr ⟨Same.sqT h00 z, fun D hD => lc_tup (Pv D) (h0 D hD) (fun i H' _ p => Same.sqT (hsame D i H' p) z) (hs D) (hd D)⟩⟩
end
end Aq
set_option maxHeartbeats 4000000
namespace Aq
open PySem PySem.Spec PyProof.Rows L2
/-- how long it is; a whole number of one -/
def rLn (K : PySem.W.Frag) : List V → Hp → VK → Prop := fun xs H Q => ∃ p ys, xs = [.ref p] ∧ (SqL K H p ys ∨ SqT K H p ys) ∧ Q (.int ys.length) H
def rInt1 : List V → Hp → VK → Prop := fun xs H Q => (∃ i, xs = [.int i] ∧ Q (.int i) H) ∨ ∃ k, xs = [.bl k] ∧ Q (.int (if k then 1 else 0)) H
section
variable {K : PySem.W.Frag} {a : Addr} {xs : List V} {g : TG} {σ : L2.St} {H0 H : Hp} {te : TE} {tt : TT} {vs : List Nat}
theorem lc_enum {ta : TA} {Q : VK} (hl : ∀ Q : List V → Hp → Prop, Q [.ref a] H → ta σ H Q) (h : SqA K H0 a xs) (h00 : Same H0 H) (Pv : Addr → Nat → Hp → Prop) (h0 : ∀ D, H D = none → Pv D 0 (upd H D (.lst []))) (hsame : ∀ D i H', Pv D i H' → Same H0 H')
    (hs : ∀ D (i : Nat) x H' T, xs[i]? = some x → Pv D i H' → H' T = none → g (.ref T) (wipe σ vs) (upd H' T (.tup [.int (i : Nat), x])) fun σ2 H2 => wipe σ2 vs = wipe σ vs ∧ tt σ2 H2 fun b H3 =>
      if b = true then te σ2 H3 fun y H4 => ∃ acc, H4 D = some (.lst acc) ∧ acc.length < sizeLine ∧ Pv D (i + 1) (upd H4 D (.lst (acc ++ [y]))) else Pv D (i + 1) H3) (hd : ∀ D H', Pv D xs.length H' → Q (.ref D) H') : tLc (iEnumS K ta) g tt te vs σ H Q := by
  have turn : ∀ D i x H' H'', i < xs.length → Pv D i H' → YPair (fun i => some (.int (i : Nat))) (fun i => xs[i]?) i H' x H'' → g x (wipe σ vs) H'' fun σ2 H2 => wipe σ2 vs = wipe σ vs ∧ tt σ2 H2 fun b H3 =>
      if b = true then te σ2 H3 fun y H4 => ∃ acc, H4 D = some (.lst acc) ∧ acc.length < sizeLine ∧ Pv D (i + 1) (upd H4 D (.lst (acc ++ [y]))) else Pv D (i + 1) H3 := fun D i x H' H'' hi p y => by
    obtain ⟨T, x1, x2, rfl, nT, rfl, e1, e2⟩ := y
    cases Option.some.inj e1
    exact hs D i x2 H' T e2 p nT
  exact hl _ ⟨a, xs, rfl, h.elim (fun z => .inl ⟨h00.seq z, fun D hD => lc_it walk_enum (Pv D) (h0 D hD) (fun i H' _ p => (hsame D i H' p).seq z) (turn D) (hd D)⟩) fun z => .inr ⟨Same.sqT h00 z, fun D hD => lc_it walk_enumT (Pv D) (h0 D hD) (fun i H' _ p => Same.sqT (hsame D i H' p) z) (turn D) (hd D)⟩⟩
end
end Aq
set_option maxHeartbeats 2000000
/-! an own error over Exception (other own classes between), whose __init__ stores its one argument under its own name: made, raised, caught, its field read. The shape is skeleton 42's. -/
namespace PySem
namespace Err
open PySem.W PySem.Calls PyProof.Rows PySem.HandSPX
abbrev exB : List Value := [.type "Exception", .type "BaseException", .type "object"]
def iA (x : String) (p1 p2 : Pos) : Arguments := { posonlyargs := [], args := [{ arg := "self", annotation := none, pos := p1 }, { arg := x, annotation := none, pos := p2 }], vararg := none, kwonlyargs := [], kw_defaults := [], kwarg := none, defaults := [] }
def iB (x : String) (q1 q2 q3 q4 : Pos) : List Stmt := [.Assign [.Attribute (.Name "self" q1) x q2] (.Name x q3) q4]
def iS (x : String) : Scope := { kind := .function, names := [(PySem.Str.ofString "self", .local), (PySem.Str.ofString x, .local)], isGenerator := false, isCoroutine := false, more := [] }
/-- what the written part says of the class n at C, and of its __init__ at fI, whose argument is x -/
structure Txt (K : Frag) (mg : Str → Option Value) (n qual x : String) (C fI : Addr) : Prop where
  nm : x = "at" ∨ x = "word"
  gC : mg n = some (.ref C)
  ini : excInitIn K C exB "Exception.__new__" = true
  ovr : excOver K C exB = true
  sa : findIn K (.ref C) "__setattr__" = some (some (.builtin "object.__setattr__"))
  ga : findIn K (.ref C) "__getattribute__" = some (some (.builtin "BaseException.__getattribute__"))
  gg : findIn K (.ref C) "__getattr__" = some none
  noN : findIn K (.ref C) x = some none
  tkN : takerIn K C x = some none
  iC : findIn K (.ref C) "__init__" = some (some (.ref fI))
  tC : typeIn K (.ref fI) = some (.type "function")
  kC : keepIn K (.ref C) = true
  exC : subIn K (.ref C) (.type "BaseException") = some true
  tyC : typeIn K (.ref C) = some (.type "type")
  hdC : hasDictIn K C = true
  fn : ∃ (oc : Value) (od : Option Addr) (kV doc pm : Value) (an : Option Addr) (cdv ct : Value) (osl : Array (Option Value)) (p1 p2 q1 q2 q3 q4 : Pos),
    K.lookup fI = some ⟨oc, od, .func (fnOf "__init__" qual (iA x p1 p2) (iB x q1 q2 q3 q4) (iS x) .none kV doc pm an cdv ct), osl⟩ ∧ codeIn K cdv qual = true
theorem kept_but {K : Frag} {h h' : Heap} {x : Addr} (X : K.In h) (hx : K.lookup x = none) (k : ∀ b o, b ≠ x → h.get? b = some o → h'.get? b = some o) : K.In h' := fun a o e =>
  k a o (fun z => by rw [z, hx] at e; cases e) (X a o e)
theorem ldC {M : Model} {s : Shared} {name : Str} {scope : Scope} {L a : Addr} {cd : Value} {m : Str → Option Value} {x : Str} {pos : Pos} {v : Value} {Q : Value → Shared → Prop} {A : Around} {E : Value → Shared → Prop} (hn : s.heap.Ns L m) (hv : m x = some v) (h : Q v s)
    (hk : scope.kind = .function) (hl : (envOfC name scope L a cd).kindOf x = some .local) (hd : (x == ("__debug__" : Str)) = false) :
    wpAny M A (eval (.Name x pos) (envOfC name scope L a cd)) Q E s := wpAny_Name (wpAny_loadName_local hk hl hn hv h) hd
/-- what __init__ leaves of a fresh exception at x -/
structure InitEnd (f : Str) (h h' : Heap) (x C dx t1 : Addr) (v : Value) : Prop where
  keep : ∀ b o, b ≠ x → h.get? b = some o → h'.get? b = some o
  obj : h'.get? x = some { cls := .ref C, dict := some dx, data := .fields #[.ref t1, .none, .none, .none, .bool false, .none] }
  dbig : h.objs.size ≤ dx
  dne : dx ≠ x
  ns : h'.Ns1 dx (fun y => if y = f then some v else none)
/-- a made error -/
structure OwnMade (f : Str) (h h' : Heap) (e C d : Addr) (v : Value) : Prop where
  keep : ∀ b o, h.get? b = some o → h'.get? b = some o
  new : h.objs.size ≤ e
  obj : ∃ oe vs, h'.get? e = some oe ∧ oe.cls = .ref C ∧ oe.dict = some d ∧ oe.data = .fields vs ∧ vs[1]? = some .none
  dbig : h.objs.size ≤ d
  dne : d ≠ e
  ns : h'.Ns1 d (fun y => if y = f then some v else none)
section
variable {prog : Program} {w : World} {A : Around} {E : Value → Shared → Prop} {R : Result → Shared → Prop} {s : Shared} {K : Frag} {mg : Str → Option Value} {C fI : Addr}
theorem ns1_one {h : Heap} {dx : Addr} {f : Str} {tk : Tok} {v : Value} {hs : Int} (e : h.get? dx = some (dictOf [⟨hs, .str f tk, v⟩] 1)) : h.Ns1 dx (fun y => if y = f then some v else none) := by
  refine ⟨_, _, _, e, rfl, ?_, ?_, fun y => ?_⟩
  · intro e' he
    simp at he
    exact ⟨f, tk, by rw [he]⟩
  · exact List.pairwise_singleton _ _
  · show findBy (fun n v => v.isStr n) #[{ hash := hs, key := Value.str f tk, val := v }] y = if y = f then some v else none
    by_cases h : y = f
    · subst h
      rw [if_pos rfl]
      simp [findBy, Value.isStr]
    · rw [if_neg h]
      have h' : ¬ f = y := fun z => h z.symm
      simp [findBy, Value.isStr, h']
theorem init_ok {n qual fx : String} (T : Txt K mg n qual fx C fI) {x t0 : Addr} {v : Value} (X : K.In s.heap) (hlim : s.heap.NoLimit) (hx : s.heap.get? x = some (excO C t0)) (hlast : s.heap.objs.size = x + 1) (hnx : K.lookup x = none) (hroom : A.depth < recursionLimit)
    (hq : ∀ h' tk dx, InitEnd fx s.heap h' x C dx t0 v → R (.ok (.ret .none)) { s with heap := h', toks := tk }) :
    codeAny (model prog w) A (.call (.ref fI) ⟨[.ref x, v], []⟩) R s := by
  obtain ⟨oc, od, kV, doc, pm, an, cdv, ct, osl, p1, p2, q1, q2, q3, q4, ho, hcd⟩ := T.fn
  have hnm := T.nm
  refine Att.call_fn (binds := [("self", .ref x), (fx, v)]) X hlim ho hcd hroom ?_ ?_ (fun s₁ IC => ?_) rfl rfl rfl
  · rcases hnm with rfl | rfl <;> exact BindsTo.of_eq (by first | rfl | with_unfolding_all rfl)
  · rcases hnm with rfl | rfl <;> first | rfl | decide | with_unfolding_all rfl
  obtain ⟨h₁, tk₁, rfl⟩ := IC.toInCall.same
  have k : ∀ b o, s.heap.get? b = some o → h₁.get? b = some o := IC.toInCall.keep
  have hn := IC.toInCall.ns
  have hxL : x ≠ s.heap.objs.size := Nat.ne_of_lt (Heap.lt_size hx)
  have X₁ : K.In h₁ := X.keeps k
  have hx₁ := k _ _ hx
  have X0 : K.In (hideAll s.heap [x]) := fun a o e => hideAll_get _ (X a o e) fun z => by
    rw [List.mem_singleton.mp z, hnx] at e
    cases e
  have F0 : Fr (hideAll s.heap [x]) s.heap.objs.size h₁ _ := ⟨hn, fun b o e => k b o (of_hideAll _ e), Nat.le_of_eq (hideAll_size _ _)⟩
  have N0 : News (hideAll s.heap [x]) s.heap.objs.size h₁ [(x, excObj C t0 none .none)] := fun p hp => by
    rw [List.mem_singleton.mp hp]
    exact ⟨hx₁, hxL, hideAll_none _ (List.mem_singleton.mpr rfl)⟩
  -- self.x = x
  show wpAny _ _ (execs _ _) _ _ _
  refine wpAny_execs_cons (plainObj_wpAny_Assign_Attribute ?_)
  have l1 : bindL (envOfC qual (iS fx) s.heap.objs.size fI cdv).kindOf [("self", .ref x), (fx, v)] (fun _ => none) (fx : Str) = some v := by
    rcases hnm with rfl | rfl <;> first | rfl | with_unfolding_all rfl | kernel_rfl
  have l2 : bindL (envOfC qual (iS fx) s.heap.objs.size fI cdv).kindOf [("self", .ref x), (fx, v)] (fun _ => none) ("self" : Str) = some (.ref x) := by
    rcases hnm with rfl | rfl <;> first | rfl | with_unfolding_all rfl | kernel_rfl
  have k1 : (envOfC qual (iS fx) s.heap.objs.size fI cdv).kindOf (fx : Str) = some .local := by
    rcases hnm with rfl | rfl <;> first | rfl | with_unfolding_all rfl | kernel_rfl
  have k2 : (envOfC qual (iS fx) s.heap.objs.size fI cdv).kindOf ("self" : Str) = some .local := by
    rcases hnm with rfl | rfl <;> first | rfl | with_unfolding_all rfl | kernel_rfl
  have d1 : ((fx : Str) == ("__debug__" : Str)) = false := by
    rcases hnm with rfl | rfl <;> decide
  refine ldC (v := v) hn l1 (ldC (v := .ref x) hn l2 ?_ rfl k2 (by decide)) rfl k1 d1
  refine set_exc0 F.store_Exception F0 X0 N0 (List.mem_singleton.mpr rfl) T.sa T.ovr T.tkN T.hdC rfl (.head (fun _ h => nomatch h)) (show 1 ≤ 1000 by decide) fun dx h' F' N' lt => ?_
  have hxd : x < dx := lt _ (List.mem_singleton.mpr rfl)
  have gd := (N' _ (List.mem_cons_self ..)).1
  have gx := (N' _ (List.mem_cons_of_mem _ (List.mem_cons_self ..))).1
  show wpAny _ _ (execs _ _) _ _ _
  exact wpAny_execs_nil (hq h' _ dx ⟨fun b o hb e => F'.keep b o (hideAll_get _ e fun z => hb (List.mem_singleton.mp z)), gx, by rw [hlast]; exact hxd, Nat.ne_of_gt hxd, ns1_one gd⟩)
theorem own_made {n qual fx : String} (T : Txt K mg n qual fx C fI) {v : Value} (X : K.In s.heap) (hlim : s.heap.NoLimit) (hroom : A.depth + 1 < recursionLimit)
    (hq : ∀ h' tk e d, OwnMade fx s.heap h' e C d v → R (.ok (.ret (.ref e))) { s with heap := h', toks := tk }) :
    codeAny (model prog w) A (.call (.ref C) ⟨[v], []⟩) R s := by
  obtain ⟨nm, N, qn, bs, bm, hdct, sn, sub, ab, col, dd, k0, k1, k2, k3, k5, hC, hT⟩ := excInit_of X T.ini
  obtain ⟨hp, g, dr, tk, os⟩ := s
  have k : ∀ b o, hp.get? b = some o → ((hp.push (kdv_tup [v])).push (excO C hp.objs.size)).get? b = some o := fun b o e => Heap.get?_push_of_some _ (Heap.get?_push_of_some _ e)
  have hget : ((hp.push (kdv_tup [v])).push (excO C hp.objs.size)).get? (hp.objs.size + 1) = some (excO C hp.objs.size) := by heap_get
  have hsz : ((hp.push (kdv_tup [v])).push (excO C hp.objs.size)).objs.size = hp.objs.size + 1 + 1 := by rw [Heap.size_push, Heap.size_push]
  have hnx : K.lookup (hp.objs.size + 1) = none := by
    cases e : K.lookup (hp.objs.size + 1) with
    | none => rfl
    | some o =>
      have z : hp.get? (hp.objs.size + 1) = some o := X _ _ e
      exact absurd (Nat.lt_of_succ_lt (Heap.lt_size z)) (Nat.lt_irrefl _)
  refine call_own F.excBase_Exception hT hC (looks_findIn X T.iC) (fun self => bind_fn X self T.tC) (show 1 ≤ sizeLine by decide) ?_
  refine init_ok (s := ⟨(hp.push (kdv_tup [v])).push (excO C hp.objs.size), g, dr, tk, os⟩) T (X.keeps k) (hlim.keeps k) hget hsz hnx ?_ fun h' tk' dx ⟨k', hx, dn, dne, hns⟩ => ?_
  · show A.depth + 1 < recursionLimit
    exact hroom
  · have old : ∀ b o, hp.get? b = some o → h'.get? b = some o := fun b o e => k' b o (Nat.ne_of_lt (Nat.lt_succ_of_lt (Heap.lt_size e))) (k b o e)
    have z : hp.objs.size + 1 + 1 ≤ dx := by
      have dn' : ((hp.push (kdv_tup [v])).push (excO C hp.objs.size)).objs.size ≤ dx := dn
      rw [hsz] at dn'
      exact dn'
    exact ⟨rfl, hq h' tk' (hp.objs.size + 1) dx ⟨old, Nat.le_succ _, ⟨_, _, hx, rfl, rfl, rfl, rfl⟩, Nat.le_trans (Nat.le_trans (Nat.le_succ _) (Nat.le_succ _)) z, dne, hns⟩⟩
end
/-- an error of the class at S is what «except S» names -/
theorem exm_self {K : PySem.W.Frag} {S : Addr} (h1 : PySem.W.subIn K (.ref S) (.type "BaseException") = some true) (h2 : PySem.W.isClsIn K S = true) (h3 : PySem.W.typeIn K (.ref S) = some (.type "type")) (h4 : PySem.W.subIn K (.ref S) (.ref S) = some true) :
    PySem.W.exmOne K (.ref S) (.ref S) = some true := by
  have e1 : (PySem.W.subIn K (.ref S) (.type "BaseException") == some true) = true := by rw [h1] <;> rfl
  have e2 : ((PySem.W.clsIn K S).isSome && PySem.W.typeIn K (.ref S) == some (.type "type")) = true := by
    have h2' : (PySem.W.clsIn K S).isSome = true := h2
    rw [h2', h3] <;> rfl
  show (if (PySem.W.subIn K (.ref S) (.type "BaseException") == some true) = true then (if ((PySem.W.clsIn K S).isSome && PySem.W.typeIn K (.ref S) == some (.type "type")) = true then PySem.W.subIn K (.ref S) (.ref S) else none) else none) = some true
  rw [if_pos e1, if_pos e2]
  exact h4
end Err
end PySem
set_option maxHeartbeats 2000000
namespace L2
open PySem PySem.Spec PyProof.Rows
theorem relO_one {v : V} {v' : Value} {g : Str} (r : RelV v v') (f : Str) : RelO (List.lookup f [(g, v)]) (if f = g then some v' else none) := by
  by_cases hw : f = g
  · subst hw
    rw [if_pos rfl]
    have q : List.lookup f [(f, v)] = some v := by simp [List.lookup]
    rw [q]
    exact r
  · rw [if_neg hw]
    have qw : (f == g) = false := by simpa using hw
    have q2 : List.lookup f [(g, v)] = none := by simp [List.lookup, qw]
    rw [q2]
    trivial
section
variable {X : Cx} {C fI : Addr} {n qual fx : String}
/-- N(e), N an own error -/
def tMkErr (C : Addr) (fx : String) (ta : TA) : St → Hp → XK → Prop := fun σ H Q => ta σ H fun vs H1 => ∃ v, vs = [v] ∧ ∀ d, H1 d = none → Q (.ref C) (some d) (upd H1 d (.xd [((fx : Str), v)]))
theorem pmk_err {a : Expr} {ta : TA} {p pos : Pos} {k : Nat} (T : PySem.Err.Txt X.K X.mg n qual fx C fI) (hr : Room k X.A) (ha : PA X [a] ta) (hg : Gl X (n : Str)) (hdb : ((n : Str) == ("__debug__" : Str)) = false)
    (he : starEach (a :: []) X.env = (false, eval a X.env) :: starEach [] X.env := by rfl) (hpl : (backTo pos (starEach [] X.env)).any (·.1) = false := by rfl) :
    PMk X (.Call (.Name (n : Str) p) [a] [] pos) (tMkErr C fx ta) := by
  intro pins s σ H Q I h
  refine wpAny_Call_Name_kw (ld_glob I hg T.gC ?_ hdb)
  refine PySem.W.callWith_K (h₀ := X.base) I.ok.mod.kin T.kC (thn (ha.run pos pins s σ H _ I h) fun us s1 hh => ?_) he hpl
  obtain ⟨vs, H1, I1, r1, v, ev, q1⟩ := hh
  subst ev
  refine ⟨I1.kIn, ?_⟩
  cases r1 with
  | cons rv rn =>
    rename_i v' us'
    cases rn
    show wpAny _ _ (call (.ref C) [v']) _ _ _
    have hlim := I1.nolimit
    obtain ⟨hp, g, dr, tk, os⟩ := s1
    refine wpAny_call (PySem.Err.own_made T I1.kIn hlim (by have := hr.dp; omega) fun h' tk' e d M => ?_)
    show MkP X pins σ Q (.ref e) ⟨h', g, dr, tk', os⟩
    obtain ⟨oe, fv, hoe, hc, hd, hdat, h1⟩ := M.obj
    have hns := M.ns
    obtain ⟨G', g1, g2⟩ := restrict h' fun b => decide (b ≠ e)
    have gk : ∀ b, b ≠ e → G'.get? b = h'.get? b := fun b hb => g1 b (decide_eq_true hb)
    have ge : G'.get? e = none := g2 e (by simp)
    have old : ∀ b o, hp.get? b = some o → G'.get? b = some o := fun b o q => (gk b (Nat.ne_of_lt (Nat.lt_of_lt_of_le (Heap.lt_size q) M.new))).trans (M.keep b o q)
    have ob : ObjOk X.prog X.w (upd H1 d (.xd [((fx : Str), v)])) G' d (.xd [((fx : Str), v)]) :=
      ⟨_, hns.at (fun o q => (gk d M.dne).trans q), fun f => relO_one rv f⟩
    have J : Inv X pins σ (upd H1 d (.xd [((fx : Str), v)])) ⟨G', g, dr, tk', os⟩ := I1.laid (t' := tk') old M.dbig ob
    refine ⟨e, oe, fv, ⟨G', g, dr, tk', os⟩, _, .ref C, some d, rfl, J, fun b o q => ?_, ge, hoe, ⟨hc, hd⟩, hdat, h1, ?_, rfl, I1.bare, raises_own T.exC T.tyC, q1 d (I1.hok.fresh M.dbig)⟩
    · by_cases hb : b = e
      · have q' : G'.get? b = some o := q
        rw [hb, ge] at q'; cases q'
      · exact (gk b hb).symm.trans q
    · rw [upd_ne (Ne.symm M.dne)]
      exact I1.hok.fresh M.new
/-- raise N(e) -/
def tRaiseErr (C : Addr) (fx : String) (W : WX) (ta : TA) : TS := fun _ σ H => tMkErr C fx ta σ H fun cls d H' => W cls d σ H'
theorem ps_raiseErr {a : Expr} {ta : TA} {W : WX} {p pos pos2 : Pos} {k : Nat} (hc : X.calm = true) (T : PySem.Err.Txt X.K X.mg n qual fx C fI) (hr : Room k X.A) (tk : Takes X W) (ha : PA X [a] ta) (hg : Gl X (n : Str)) (hdb : ((n : Str) == ("__debug__" : Str)) = false)
    (he : starEach (a :: []) X.env = (false, eval a X.env) :: starEach [] X.env := by rfl) (hpl : (backTo pos (starEach [] X.env)).any (·.1) = false := by rfl) :
    PS X (.Raise (some (.Call (.Name (n : Str) p) [a] [] pos)) none pos2) (tRaiseErr C fx W ta) := ps_raise hc tk (pmk_err T hr ha hg hdb he hpl)
/-- error.x, the error that the suite holds (at a; its class cls, its dict d) -/
def tFldErr (a : Addr) (cls : Value) (d : Option Addr) (fx : String) (K : PySem.W.Frag) (mg : Str → Option Value) (te : TE) : TE := fun σ H Q => te σ H fun x H1 => x = .ref a ∧ ∃ (n qual : String) (C fI : Addr), PySem.Err.Txt K mg n qual fx C fI ∧ cls = .ref C ∧ ∃ (dd : Addr) (v : V), d = some dd ∧ H1 dd = some (.xd [((fx : Str), v)]) ∧ Q v H1
theorem pe_fldErr {a : Addr} {oe : Obj} {cls : Value} {d : Option Addr} {pn : List (Addr × Obj)} {e : Expr} {te : TE} {pos : Pos} (hz : Zc cls d oe) (hf : ∃ vs, oe.data = .fields vs) (he : PE (X.suite a ((a, oe) :: pn)) e te)
    (hb : attributeBase e (fx : Str) X.env (eval e X.env) = eval e X.env) :
    PE (X.suite a ((a, oe) :: pn)) (.Attribute e (fx : Str) pos) (tFldErr a cls d fx X.K X.mg te) := by
  refine ⟨fun pins s σ H Q I h => ?_⟩
  refine attr_of hb (thn (he.run pins s σ H _ I h) fun u s1 hh => ?_)
  obtain ⟨x, H1, I1, rx, ex, n, qual, C, fI, T, ec, dd, v, ed, ea, q⟩ := hh
  subst ex
  obtain rfl : u = Value.ref a := rx
  subst ec
  subst ed
  obtain ⟨ha, _⟩ := I1.pin (a, oe) (List.mem_append_left _ List.mem_cons_self)
  obtain ⟨vs, hd⟩ := hf
  have hx : ObjOk X.prog X.w H1 s1.heap dd (.xd [((fx : Str), v)]) := I1.hok dd _ ea
  obtain ⟨mA, hns, hr⟩ := hx
  obtain ⟨od, ho, hl⟩ := lookIn_ns hns
  have l : List.lookup (fx : Str) [((fx : Str), v)] = some v := by simp [List.lookup]
  obtain ⟨u, hu, ru⟩ := RelO.some_of (v := v) (o := mA fx) (by rw [← l]; exact hr fx)
  have J : PySem.W.InstAt s1.heap a oe C (some od) := ⟨ha, hz.1, by unfold PySem.W.notCls; rw [hd] <;> rfl, by rw [hz.2]; exact ho⟩
  exact HandSPX.exc_get I1.kIn J T.ga T.gg T.exC (PySem.W.findObj_own T.hdC T.noN rfl (by rw [hl, hu])) (handed_of ru) ⟨v, H1, I1.tok _, ru, q⟩
end
end L2
set_option maxHeartbeats 2000000
/-! a try with several clauses, each with a name -/
namespace L2
open PySem PySem.Spec PyProof.Rows
/-- behind a clause its name is gone -/
def offAt (i : Nat) (D : Ends) : Ends := { nx := fun τ G => D.nx (τ.set i none) G, rt := D.rt, bk := fun τ G => D.bk (τ.set i none) G, ct := fun τ G => D.ct (τ.set i none) G }
abbrev Cl : Type := Value × Nat × (Addr → Value → Option Addr → TS)
def wMA (K : PySem.W.Frag) (Wout : WX) (D : Ends) : List Cl → WX
  | [] => Wout
  | (c, i, ts) :: r => fun cls d σ H => ∃ b, PySem.W.exmOne K cls c = some b ∧ (b = true → ∀ a, H a = none → ts a cls d (offAt i D) (σ.set i (some (.ref a))) H) ∧ (b = false → wMA K Wout D r cls d σ H)
inductive HdsAs (X : Cx) : List ExceptHandler → List Cl → Prop
  | nil : HdsAs X [] []
  | cons {x n : Str} {c : Value} {i : Nat} {ts : Addr → Value → Option Addr → TS} {b₀ : Stmt} {suite : List Stmt} {np pos' : Pos} {hds : List ExceptHandler} {l : List Cl} (hc : Names X x c) (hi : X.N[i]? = some n) (hln : X.env.kindOf n = some .local)
      (hsu : ∀ (a : Addr) (oe : Obj) (cls : Value) (d : Option Addr) (pn : List (Addr × Obj)), Zc cls d oe → (∃ vs, oe.data = .fields vs) → PSs (X.suite a ((a, oe) :: pn)) (b₀ :: suite) (ts a cls d)) (r : HdsAs X hds l) :
      HdsAs X (.ExceptHandler (some (.Name x np)) (some n) (b₀ :: suite) pos' :: hds) ((c, i, ts) :: l)
section
variable {X : Cx} {body : List Stmt} {h₀ : ExceptHandler} {hds : List ExceptHandler} {l : List Cl} {pos : Pos} {tb : WX → TS} {Wout : WX}
theorem ps_try_manyAs (hs : X.stack = X.env :: X.outer) (hf : X.env.frame = some X.env.locals) (hN : X.N.Nodup) (tk : Takes X Wout)
    (hb : ∀ (W : WX) (pn : List (Addr × Obj)) (xe : Value → Shared → Prop), Takes (X.tr pn xe) W → PassesOwn (model X.prog X.w) X.A X.env xe → PSs (X.tr pn xe) body (tb W))
    (hh : HdsAs X (h₀ :: hds) l) : PS X (.Try body (h₀ :: hds) [] [] pos) (fun D σ H => tb (wMA X.K Wout D l) D σ H) := by
  refine ⟨fun pins s σ H D I h => ?_⟩
  have okX := I.ok
  have frX : X.A.frames = some (X.env :: X.outer) := okX.frames.trans (by rw [hs])
  refine wpAny_Try_except ?_
  -- what happens to a way out of the body
  let ye : Value → Shared → Prop := fun e t1 => wpAny (model X.prog X.w) X.A (noteFrame e X.env) (fun _ t2 => wpAny (model X.prog X.w) X.A (setFlight e none)
    (fun _ t3 => wpAny (model X.prog X.w) X.A (handleBy e X.env (h₀ :: hds)) (SP X pins D) X.xe t3) X.xe t2) X.xe t1
  have tkb : Takes (X.tr (X.pn ++ pins) ye) (wMA X.K Wout D l) := by
    rintro u t ⟨a, B, sI, pj, τ, G, cls, d, rfl, J', nb, up, sky, na, os, ag, ww⟩
    have J : Inv X pins τ G sI := J'.ofTry okX
    have sk : Sky B (X.env :: X.outer) a (Zc cls d) X.env.locals t.heap := hs ▸ sky
    show wpAny (model X.prog X.w) X.A (noteFrame (.ref a) X.env) _ _ _
    refine Sky.land Zc.steady frX hf sk fun g3 fly up3 => ?_
    have Jg : Inv X pins τ G { t with heap := g3 } := J.landed nb fly.1 (up.trans up3) os ag
    obtain ⟨o3, w3, at3, z3, f3⟩ := fly.there
    have off : a ∉ frs (X.env :: X.outer) := fun hm => by
      obtain ⟨_, o', e', hnf⟩ := fly.2.2.1.mem hm
      rw [at3] at e'
      cases e'
      exact hnf _ f3
    have offL : a ≠ X.env.locals := fun z => off (List.mem_filterMap.mpr ⟨X.env, List.mem_cons_self, by rw [hf, z]⟩)
    have offF : a ∉ X.fs := fun hm => by
      obtain ⟨e, he, q⟩ := List.mem_filterMap.mp hm
      exact off (List.mem_filterMap.mpr ⟨e, List.mem_cons_of_mem _ he, q⟩)
    have Sg := Jg.suite at3 f3 na offL offF
    have each : ∀ {hs' : List ExceptHandler} {l' : List Cl}, HdsAs X hs' l' → wMA X.K Wout D l' cls d τ G →
        wpAny (model X.prog X.w) X.A (handleBy (.ref a) X.env hs') (SP X pins D) X.xe { t with heap := g3 } := by
      intro hs' l' hk
      induction hk with
      | nil =>
        intro w0
        refine wpAny_handleBy_nil ?_
        obtain ⟨_, _, _, oe, vs, T, oT, ts', he, hz, hd, h1, hr⟩ := id fly
        unfold PySem.passOn
        refine wpAny_bind (wpAny_field he hd h1 ?_)
        have nz : ¬ ((Value.ref T == Value.none) = true) := by simp
        rw [if_neg nz]
        have out : wpAny (model X.prog X.w) X.A (setFlight (.ref a) X.env.frame) (fun _ t4 => wpAny (model X.prog X.w) X.A (throw (.ref a) : Sem Flow)
            (SP X pins D) X.xe t4) X.xe { t with heap := g3 } := by
          rw [hf]
          exact HandSPX.setFlight_upZ fly fun g4 held up4 => wpAny_throw (tk _ _ ⟨a, B, sI, pins, τ, G, cls, d, rfl, J, nb, (up.trans up3).trans up4, .inr (.inr (hs ▸ held)), na, os, ag, w0⟩)
        first
          | exact wpAny_bind (wpAny_pure (wpAny_bind out))
          | exact wpAny_bind out
      | @cons x n c i ts b₀ suite np pos' hs2 l2 hc hi hln hsu r ih =>
        rintro ⟨b, eb, wy, wn⟩
        refine wpAny_handleBy_cons (codeAny_handlers_test ?_) (fun q => nomatch q)
        have ty : PySem.W.Looks (model X.prog X.w) g3 (typeOf (.ref a)) cls := fun A Q E s k q => wpAny_typeOf_ref (k _ _ at3)
          (by rw [z3.1]; exact q)
        have fits := PySem.W.exm_one (M := model X.prog X.w) (Jg.kIn) ty eb
        have named : ∀ {Q : Value → Shared → Prop} {E : Value → Shared → Prop}, Q c { t with heap := g3 } →
            wpAny (model X.prog X.w) (X.A.mark (some (.ref a))) (eval (.Name x np) X.env) Q E { t with heap := g3 } := fun {Q E} q => by
          obtain ⟨hg, hdbg, hm | ⟨hm, hv, hnn⟩⟩ := hc
          · exact ld_glob (X := X.suite a ((a, o3) :: (X.pn ++ pins))) Sg hg hm q hdbg
          · exact ld_blt (X := X.suite a ((a, o3) :: (X.pn ++ pins))) Sg hg hm hv q hnn hdbg
        refine named (fits.here ?_)
        cases b with
        | false =>
          exact ih (wn rfl)
        | true =>
          refine codeAny_handlers_suite_as ?_
          refine HandSPX.lands_againZ fly fun g4 fly4 up4 => ?_
          have Jh : Inv X pins τ G { t with heap := g4 } := J.landed nb fly4.1 ((up.trans up3).trans up4) os ag
          obtain ⟨o4, w4, at4, z4, f4⟩ := fly4.there
          have Sh := Jh.suite at4 f4 na offL offF
          refine store_ok (X := X.suite a ((a, o4) :: (X.pn ++ pins))) (v := .ref a) Sh hN hi (.inl hln) rfl (fun t5 S5 => ?_) (.inr hln)
          refine wpAny_mono ((hsu a o4 cls d (X.pn ++ pins) z4 ⟨_, f4⟩).run [] t5 _ G _ S5 (wy rfl a na)) (fun f t6 e6 => ?_) (fun _ _ z => z.elim)
          have fin : ∀ {τ6 : St} {G6 : Hp} {Q : Shared → Prop}, Inv (X.suite a ((a, o4) :: (X.pn ++ pins))) [] τ6 G6 t6 → (∀ t7, Inv X pins (τ6.set i none) G6 t7 → Q t7) →
              wpAny (model X.prog X.w) X.A (do bindName X.env n .none; unbindBehindTheSuite X.env n pos') (fun _ t7 => Q t7) X.xe t6 := fun S6 hq => gone_ok (S6.unsuite okX) hN hi hln hq
          cases f with
          | next =>
            obtain ⟨_, _, S6, q6⟩ := e6
            exact fin S6 fun _ J7 => ⟨_, _, J7, q6⟩
          | brk =>
            obtain ⟨_, _, S6, q6⟩ := e6
            exact fin S6 fun _ J7 => ⟨_, _, J7, q6⟩
          | cont =>
            obtain ⟨_, _, S6, q6⟩ := e6
            exact fin S6 fun _ J7 => ⟨_, _, J7, q6⟩
          | ret u =>
            obtain ⟨_, _, _, S6, r6, q6⟩ := e6
            exact fin S6 fun _ J7 => ⟨_, _, _, J7, r6, q6⟩
    exact each hh ww
  refine wpAny_mono ((hb (wMA X.K Wout D l) (X.pn ++ pins) ye tkb PassesOwn.looking).run [] s σ H D (I.toTry _) h) (fun f t1 e1 => ?_) (fun _ _ z => z)
  cases f with
  | next =>
    obtain ⟨_, _, J1, q⟩ := e1
    exact wpAny_execs_nil ⟨_, _, J1.ofTry okX, q⟩
  | brk =>
    obtain ⟨_, _, J1, q⟩ := e1
    exact ⟨_, _, J1.ofTry okX, q⟩
  | cont =>
    obtain ⟨_, _, J1, q⟩ := e1
    exact ⟨_, _, J1.ofTry okX, q⟩
  | ret u =>
    obtain ⟨_, _, _, J1, r, q⟩ := e1
    exact ⟨_, _, _, J1.ofTry okX, r, q⟩
end
end L2
/-! defs that may let an error out -/
namespace Aq
open PySem PySem.Spec PyProof.Rows L2
structure CalX (P : Program) (w : World) (K : PySem.W.Frag) (mg : Str → Option Value) (base : Heap) (k : Nat) (x : Str) (sp : Sp) : Prop where
  ex : ∃ (f : Addr) (fd : FuncData) (ps : List Str), FnOk P w K mg base (L2.CX P w) k f fd ps sp ∧ mg x = some (.ref f) ∧ PySem.W.keepIn K (.ref f) = true ∧ Binds K fd ps []
theorem Df.calX {P : Program} {w : World} {K : PySem.W.Frag} {mg : Str → Option Value} {base : Heap} {x : Str} {st : Stmt} {N ps : List Str} {k : Nat} {sp : Sp} (D : Df K mg x st ps) (S : FnScope N ps (defScope st)) (len : ∀ vs H Q E, sp vs H Q E → vs.length = ps.length)
    (hbody : ∀ (f : Addr) (cdv : Value) (A : Around) (outer : List Env) (s : Shared) (H : Hp) (vs : List V) (Q : VK) (E : XK), Room k (A.deeper (envOfC x (defScope st) s.heap.objs.size f cdv)) → sp vs H Q E →
      ∃ t, PSs (cxOf (L2.CX P w) P w K mg base N x (defScope st) f cdv A outer s H E) (defBody st) t ∧ t { nx := fun _ H' => Q .non H', rt := Q } (start N vs) H) : CalX P w K mg base (k + 1) x sp := by
  obtain ⟨f, fd, F, g, b⟩ := D.ex
  exact ⟨f, fd, ps, F.okX S len (hbody f), g, F.kp, b⟩
section
variable {X : Cx} {k j : Nat} {sp : Sp} {x : Str} {p pos : Pos} {e : Expr} {es : List Expr} {t : TA} {W : WX}
theorem pe_cx (c : CalX X.prog X.w X.K X.mg X.base k x sp) (hr : Room j X.A) (hk : k ≤ j) (hg : Gl X x) (tk : Takes X W) (ha : PA X (e :: es) t) (hdb : (x == ("__debug__" : Str)) = false := by decide)
    (he : starEach (e :: es) X.env = (false, eval e X.env) :: starEach es X.env := by rfl) (hpl : (backTo pos (starEach es X.env)).any (·.1) = false := by rfl) :
    PE X (.Call (.Name x p) (e :: es) [] pos) (tCallS sp (WE W) t) := by
  obtain ⟨f, fd, ps, F, hm, kp, b⟩ := c.ex
  exact pe_callS F (hr.mono hk) hg hm kp b (fun σ => passAt tk σ) ha (hdb := hdb) (he := he) (hpl := hpl)
end
end Aq
/-! a way out by an own error -/
namespace Aq
open PySem PySem.Spec PyProof.Rows L2
/-- out by the class at C, whose field fx holds v -/
def Way (C : Addr) (fx : String) (v : V) (E : XK) (H : Hp) : Prop := ∀ d H', Same H H' → H' d = none → E (.ref C) (some d) (upd H' d (.xd [((fx : Str), v)]))
theorem Way.same {C : Addr} {fx : String} {v : V} {E : XK} {H H' : Hp} (h : Way C fx v E H) (e : Same H H') : Way C fx v E H' := fun d H2 s2 nd => h d H2 (e.trans s2) nd
theorem Way.at_ {C : Addr} {fx : String} {v : V} {E : XK} {H H' : Hp} (h : Way C fx v E H) (e : Same H H') : ∀ d, H' d = none → E (.ref C) (some d) (upd H' d (.xd [((fx : Str), v)])) := fun d nd => h d H' e nd
/-- the items of a sequence are known, and theirs -/
def Kn2 (K : PySem.W.Frag) (H : Hp) (o : Option (List V)) : Prop := ∀ xs, o = some xs → xs.length ≤ 1000 ∧ ∀ x ∈ xs, ∃ o', Vw K H x o' ∧ Kn K H o'
theorem Kn2.same {K : PySem.W.Frag} {H H' : Hp} {o : Option (List V)} (e : Same H H') (h : Kn2 K H o) : Kn2 K H' o := fun xs q => ⟨(h xs q).1, fun x hx => let ⟨o', z, y⟩ := (h xs q).2 x hx; ⟨o', z.same e, y.same e⟩⟩
end Aq
/-! calls with keywords that may let an error out, inside a try too -/
namespace Aq
open PySem PySem.Spec PyProof.Rows L2
structure CalKX (P : Program) (w : World) (K : PySem.W.Frag) (mg : Str → Option Value) (base : Heap) (k : Nat) (x : Str) (n : Nat) (ks : List Str) (sp : Sp) : Prop where
  ex : ∃ (f : Addr) (fd : FuncData) (ps : List Str), ∃ g : List Value → List Value → List Value, FnOk P w K mg base (L2.CX P w) k f fd ps sp ∧ mg x = some (.ref f) ∧ PySem.W.keepIn K (.ref f) = true ∧ KBn K fd ps n ks g (fun vs zs => vs ++ zs)
structure MakKX (P : Program) (w : World) (K : PySem.W.Frag) (mg : Str → Option Value) (base : Heap) (k : Nat) (x : Str) (C : Addr) (n : Nat) (ks : List Str) (sp : Sp) : Prop where
  ex : ∃ (f : Addr) (fd : FuncData) (ps : List Str), ∃ g : List Value → List Value → List Value, Mk K C f ∧ FnOk P w K mg base (L2.CX P w) k f fd ps sp ∧ mg x = some (.ref C) ∧ KBn K fd ps (n + 1) ks g (fun vs zs => vs ++ zs)
def tCallNS (n m : Nat) (sp : Sp) (E : L2.St → XK) (t tk : TA) : TE := fun σ H Q => t σ H fun vs H1 => tk σ H1 fun zs H2 => vs.length = n ∧ zs.length = m ∧ sp (vs ++ zs) H2 Q (E σ)
section
variable {X : Cx} {k j n : Nat} {C f : Addr} {fd : FuncData} {ps ks : List Str} {sp : Sp} {x : Str} {p pos : Pos} {e : Expr} {es : List Expr} {kws : List Keyword} {t tkw : TA} {W : WX} {g : List Value → List Value → List Value} {E : XK}
theorem run_ks {pins : List (Addr × Obj)} {σ : L2.St} {H : Hp} {s : Shared} {Q : VK} {us ws : List Value} {vs zs : List V} (F : FnOk X.prog X.w X.K X.mg X.base (L2.CX X.prog X.w) k f fd ps sp) (hr : Room k X.A)
    (hb : KBn X.K fd ps n ks g (fun vs zs => vs ++ zs)) (tk : Takes X W) (I : Inv X pins σ H s) (r : Vals vs us) (rz : Vals zs ws) (l1 : vs.length = n) (l2 : zs.length = ks.length) (h : sp (vs ++ zs) H Q (WE W σ)) :
    wpAny (model X.prog X.w) X.A (call (.ref f) us (ks.zip ws)) (EP X pins σ Q) X.xe s := by
  have bound := hb.to s us ws I.kIn (r.length ▸ l1) (rz.length ▸ l2)
  refine wpAny_call (codeAny_mono (F.run X.A X.stack s H _ _ _ Q (WE W σ) hr I.env0 bound (hb.rel r rz) h) ?_)
  rintro (e | fl) s' hq
  · exact passAt tk σ pins H s e s' I hq
  · cases fl with
    | ret u => exact I.after hq
    | _ => exact hq.elim
theorem pe_ckx (c : CalKX X.prog X.w X.K X.mg X.base k x n ks sp) (hr : Room j X.A) (hk : k ≤ j) (hg : Gl X x) (tk : Takes X W) (ha : PA X (e :: es) t) (hkw : PK X kws tkw)
    (h1 : (backToKw pos (keywordEach kws X.env)).all (·.1.isSome) = true := by rfl) (h2 : (backToKw pos (keywordEach kws X.env)).filterMap (·.1) = ks := by rfl) (h3 : (x == ("__debug__" : Str)) = false := by decide)
    (h4 : starEach (e :: es) X.env = (false, eval e X.env) :: starEach es X.env := by rfl) (h5 : ((backTo pos (starEach (e :: es) X.env)).any (·.1) || (backToKw pos (keywordEach kws X.env)).any (·.1.isNone)) = false := by rfl) :
    PE X (.Call (.Name x p) (e :: es) kws pos) (tCallNS n ks.length sp (WE W) t tkw) := by
  obtain ⟨f, fd, ps, g, F, hm, kp, b⟩ := c.ex
  refine ⟨fun pins s σ H Q I h => wpAny_Call_Name_kw (ld_glob I hg hm ?_ h3)⟩
  refine PySem.W.callWith_KW (h₀ := X.base) I.ok.mod.kin kp h1 (thn (ha.run pos pins s σ H _ I h) ?_) h5 h4
  rintro us s1 ⟨vs, H1, I1, r, q⟩
  refine thn (hkw.run pos pins s1 σ H1 _ I1 q) ?_
  rintro ws s2 ⟨zs, H2, I2, rz, l1, l2, q2⟩
  refine ⟨I2.kIn, ?_⟩
  rw [h2]
  exact run_ks F (hr.mono hk) b tk I2 r rz l1 l2 q2
theorem pe_mkx (c : MakKX X.prog X.w X.K X.mg X.base k x C n ks sp) (hr : Room j X.A) (hk : k + 1 ≤ j) (hg : Gl X x) (tk : Takes X (fun cls d _ H => E cls d H)) (ha : PA X (e :: es) t) (hkw : PK X kws tkw)
    (h1 : (backToKw pos (keywordEach kws X.env)).all (·.1.isSome) = true := by rfl) (h2 : (backToKw pos (keywordEach kws X.env)).filterMap (·.1) = ks := by rfl) (h3 : (x == ("__debug__" : Str)) = false := by decide)
    (h4 : starEach (e :: es) X.env = (false, eval e X.env) :: starEach es X.env := by rfl) (h5 : ((backTo pos (starEach (e :: es) X.env)).any (·.1) || (backToKw pos (keywordEach kws X.env)).any (·.1.isNone)) = false := by rfl) :
    PE X (.Call (.Name x p) (e :: es) kws pos) (tMakeK C n ks.length sp (fun vs zs => vs ++ zs) E t tkw) := by
  obtain ⟨f, fd, ps, g, M, F, hm, b⟩ := c.ex
  refine pe_makeK M F (hr.mono hk) hg hm b (fun pins σ H s e s' I hc => ?_) ha hkw h1 h2 h3 h4 h5
  exact passAt tk σ pins H s e s' I hc
end
end Aq
/-! a program's mirror: plain data, a heap of cells, and what a reading's promise is against it -/
namespace Mr
open PySem PySem.Spec PyProof.Rows L2 Aq
/-- plain data; ref: a cell of the mirror's heap -/
inductive D where
  | non | bl (b : Bool) | int (i : Int) | str (x : Str) | tup (ds : List D) | vl (ds : List D) | obj (c : Str) (fs : List Str) (ds : List D) | ref (n : Nat)
inductive Cell where
  | lst (ds : List D) | ro (ds : List D) | ins (c : Str) (fs : List Str) (ds : List D) | dic (ks : List D) (ds : List D) | dead
abbrev AH := List Cell
inductive RE where
  | ok (d : D) (h : AH) | er (c : Str) (x : D) (h : AH) | bad
abbrev AEnv := List (Option D)
inductive RS where
  | nx (δ : AEnv) (h : AH) | rt (d : D) (h : AH) | bk (δ : AEnv) (h : AH) | ct (δ : AEnv) (h : AH) | er (c : Str) (x : D) (δ : AEnv) (h : AH) | bad
/-- what is fixed: the written part, where the classes stand, the name of an error's field -/
structure Kc where
  K : PySem.W.Frag
  kc : Str → Addr
  pv : List Addr
/-- neither a cell nor private -/
def Off (C : Kc) (ι : List Addr) (a : Addr) : Prop := a ∉ ι ∧ a ∉ C.pv
def fldOf (c : Str) : Str := if c = "TooMany" then "word" else "at"
mutual
def RepV (C : Kc) (ι : List Addr) (H : Hp) : D → V → Prop
  | .non, v => v = .non
  | .bl b, v => v = .bl b
  | .int i, v => v = .int i
  | .str x, v => v = .str x
  | .tup ds, v => ∃ a vs, v = .ref a ∧ H a = some (.tup vs) ∧ Off C ι a ∧ vs.length ≤ sizeLine ∧ RepL C ι H ds vs
  | .vl ds, v => ∃ a vs, v = .ref a ∧ H a = some (.lst vs) ∧ Off C ι a ∧ vs.length ≤ sizeLine ∧ RepL C ι H ds vs
  | .obj c fs ds, v => ∃ a dx vs, v = .ref a ∧ H a = some (.ins (C.kc c) dx (fs.zip vs)) ∧ Off C ι a ∧ fs.length = vs.length ∧ fs.length < 1000 ∧ RepL C ι H ds vs
  | .ref n, v => ∃ a, ι[n]? = some a ∧ v = .ref a
def RepL (C : Kc) (ι : List Addr) (H : Hp) : List D → List V → Prop
  | [], vs => vs = []
  | d :: ds, vs => ∃ v ws, vs = v :: ws ∧ RepV C ι H d v ∧ RepL C ι H ds ws
end
def CellR (C : Kc) (ι : List Addr) (H : Hp) (a : Addr) : Cell → Prop
  | .lst ds => ∃ vs, H a = some (.lst vs) ∧ vs.length ≤ sizeLine ∧ RepL C ι H ds vs
  | .ro ds => ∃ vs o, H a = some (.frz o (.lst vs)) ∧ vs.length ≤ sizeLine ∧ RepL C ι H ds vs
  | .ins c fs ds => ∃ dx vs, H a = some (.ins (C.kc c) dx (fs.zip vs)) ∧ fs.length = vs.length ∧ fs.length < 1000 ∧ RepL C ι H ds vs
  | .dic ks ds => False
  | .dead => ∃ o, H a = some o
structure Rel (C : Kc) (ι : List Addr) (H : Hp) (h : AH) : Prop where
  len : ι.length = h.length
  nd : ι.Nodup
  priv : ∀ a, a ∈ C.pv → a ∉ ι ∧ ∃ o, H a = some o
  cell : ∀ (n : Nat) (c : Cell), h[n]? = some c → ∃ a, ι[n]? = some a ∧ CellR C ι H a c
structure Ext (ι : List Addr) (H : Hp) (ι' : List Addr) (H' : Hp) : Prop where
  pre : ι <+: ι'
  new : ∀ a, a ∈ ι' → a ∉ ι → H a = none
  keep : ∀ a o, a ∉ ι → H a = some o → H' a = some o
theorem Ext.refl {ι : List Addr} {H : Hp} : Ext ι H ι H := ⟨List.prefix_refl _, fun _ h n => absurd h n, fun _ _ _ h => h⟩
theorem Ext.trans {ι ι' ι'' : List Addr} {H H' H'' : Hp} (e : Ext ι H ι' H') (f : Ext ι' H' ι'' H'') : Ext ι H ι'' H'' := by
  have hn : ∀ a o, a ∉ ι → H a = some o → a ∉ ι' := fun a o n h m => by
    rw [e.new a m n] at h
    cases h
  refine ⟨e.pre.trans f.pre, fun a m n => ?_, fun a o n h => f.keep a o (hn a o n h) (e.keep a o n h)⟩
  by_cases m' : a ∈ ι'
  · exact e.new a m' n
  · cases h : H a with
    | none => rfl
    | some o =>
      have := f.new a m m'
      rw [e.keep a o n h] at this
      cases this
theorem Ext.off {ι ι' : List Addr} {H H' : Hp} (e : Ext ι H ι' H') {a : Addr} {o : HO} (n : a ∉ ι) (h : H a = some o) : a ∉ ι' := fun m => by
  rw [e.new a m n] at h
  cases h
/-- what a value asks of a later heap -/
structure ExW (C : Kc) (ι : List Addr) (H : Hp) (ι' : List Addr) (H' : Hp) : Prop where
  pre : ι <+: ι'
  new : ∀ a, a ∈ ι' → a ∉ ι → H a = none
  keep : ∀ a o, Off C ι a → H a = some o → H' a = some o
theorem Ext.w {C : Kc} {ι ι' : List Addr} {H H' : Hp} (e : Ext ι H ι' H') : ExW C ι H ι' H' := ⟨e.pre, e.new, fun a o n h => e.keep a o n.1 h⟩
theorem ExW.off {C : Kc} {ι ι' : List Addr} {H H' : Hp} (e : ExW C ι H ι' H') {a : Addr} {o : HO} (n : Off C ι a) (h : H a = some o) : Off C ι' a := ⟨(fun m => by
  rw [e.new a m n.1] at h
  cases h), n.2⟩
theorem pre_get {α : Type} {l m : List α} (p : l <+: m) {n : Nat} {a : α} (h : l[n]? = some a) : m[n]? = some a := by
  obtain ⟨t, rfl⟩ := p
  rw [List.getElem?_append_left (List.getElem?_eq_some_iff.mp h).1]
  exact h
mutual
theorem RepV.exw {C : Kc} {ι ι' : List Addr} {H H' : Hp} (e : ExW C ι H ι' H') : ∀ {d : D} {v : V}, RepV C ι H d v → RepV C ι' H' d v
  | .non, _, h => h
  | .bl _, _, h => h
  | .int _, _, h => h
  | .str _, _, h => h
  | .tup ds, v, h => by
    obtain ⟨a, vs, h1, h2, h2', h3, h4⟩ := (show ∃ a vs, v = .ref a ∧ H a = some (.tup vs) ∧ Off C ι a ∧ vs.length ≤ sizeLine ∧ RepL C ι H ds vs from h)
    exact ⟨a, vs, h1, e.keep _ _ h2' h2, e.off h2' h2, h3, RepL.exw e h4⟩
  | .vl ds, v, h => by
    obtain ⟨a, vs, h1, h2, h2', h3, h4⟩ := (show ∃ a vs, v = .ref a ∧ H a = some (.lst vs) ∧ Off C ι a ∧ vs.length ≤ sizeLine ∧ RepL C ι H ds vs from h)
    exact ⟨a, vs, h1, e.keep _ _ h2' h2, e.off h2' h2, h3, RepL.exw e h4⟩
  | .obj c fs ds, v, h => by
    obtain ⟨a, dx, vs, h1, h2, h3, h4, h5, h6⟩ := (show ∃ a dx vs, v = .ref a ∧ H a = some (.ins (C.kc c) dx (fs.zip vs)) ∧ Off C ι a ∧ fs.length = vs.length ∧ fs.length < 1000 ∧ RepL C ι H ds vs from h)
    exact ⟨a, dx, vs, h1, e.keep _ _ h3 h2, e.off h3 h2, h4, h5, RepL.exw e h6⟩
  | .ref n, v, h => by
    obtain ⟨a, h1, h2⟩ := (show ∃ a, ι[n]? = some a ∧ v = .ref a from h)
    exact ⟨a, pre_get e.pre h1, h2⟩
theorem RepL.exw {C : Kc} {ι ι' : List Addr} {H H' : Hp} (e : ExW C ι H ι' H') : ∀ {ds : List D} {vs : List V}, RepL C ι H ds vs → RepL C ι' H' ds vs
  | [], _, h => h
  | d :: ds, vs, h => by
    obtain ⟨v, ws, h1, h2, h3⟩ := (show ∃ v ws, vs = v :: ws ∧ RepV C ι H d v ∧ RepL C ι H ds ws from h)
    exact ⟨v, ws, h1, RepV.exw e h2, RepL.exw e h3⟩
end
theorem RepV.ext {C : Kc} {ι ι' : List Addr} {H H' : Hp} (e : Ext ι H ι' H') {d : D} {v : V} (h : RepV C ι H d v) : RepV C ι' H' d v := RepV.exw e.w h
theorem RepL.ext {C : Kc} {ι ι' : List Addr} {H H' : Hp} (e : Ext ι H ι' H') {d : List D} {v : List V} (h : RepL C ι H d v) : RepL C ι' H' d v := RepL.exw e.w h
theorem RepL.length {C : Kc} {ι : List Addr} {H : Hp} : ∀ {ds : List D} {vs : List V}, RepL C ι H ds vs → ds.length = vs.length
  | [], vs, h => by
    rw [show vs = [] from h]
    rfl
  | d :: ds, vs, h => by
    obtain ⟨v, ws, rfl, _, h3⟩ := (show ∃ v ws, vs = v :: ws ∧ RepV C ι H d v ∧ RepL C ι H ds ws from h)
    rw [List.length_cons, List.length_cons, RepL.length h3]
theorem RepL.get {C : Kc} {ι : List Addr} {H : Hp} : ∀ {ds : List D} {vs : List V} {i : Nat} {d : D}, RepL C ι H ds vs → ds[i]? = some d → ∃ v, vs[i]? = some v ∧ RepV C ι H d v
  | [], _, _, _, _, e => by simp at e
  | x :: ds, vs, i, d, h, e => by
    obtain ⟨v, ws, rfl, h2, h3⟩ := (show ∃ v ws, vs = v :: ws ∧ RepV C ι H x v ∧ RepL C ι H ds ws from h)
    cases i with
    | zero =>
      cases (show some x = some d from by simpa using e)
      exact ⟨v, rfl, h2⟩
    | succ i => exact RepL.get (i := i) h3 (by simpa using e)
theorem RepL.append {C : Kc} {ι : List Addr} {H : Hp} : ∀ {ds es : List D} {vs ws : List V}, RepL C ι H ds vs → RepL C ι H es ws → RepL C ι H (ds ++ es) (vs ++ ws)
  | [], _, _, _, h, g => by
    rw [show _ = [] from h]
    exact g
  | d :: ds, es, vs, ws, h, g => by
    obtain ⟨v, us, rfl, h2, h3⟩ := (show ∃ v ws, vs = v :: ws ∧ RepV C ι H d v ∧ RepL C ι H ds ws from h)
    exact ⟨v, us ++ ws, rfl, h2, RepL.append h3 g⟩
theorem RepL.take {C : Kc} {ι : List Addr} {H : Hp} : ∀ {ds : List D} {vs : List V} (n : Nat), RepL C ι H ds vs → RepL C ι H (ds.take n) (vs.take n)
  | [], _, n, h => by
    rw [show _ = [] from h, List.take_nil, List.take_nil]
    exact rfl
  | d :: ds, vs, 0, h => rfl
  | d :: ds, vs, n + 1, h => by
    obtain ⟨v, us, rfl, h2, h3⟩ := (show ∃ v ws, vs = v :: ws ∧ RepV C ι H d v ∧ RepL C ι H ds ws from h)
    exact ⟨v, us.take n, rfl, h2, RepL.take n h3⟩
theorem RepL.drop {C : Kc} {ι : List Addr} {H : Hp} : ∀ {ds : List D} {vs : List V} (n : Nat), RepL C ι H ds vs → RepL C ι H (ds.drop n) (vs.drop n)
  | [], _, n, h => by
    rw [show _ = [] from h, List.drop_nil, List.drop_nil]
    exact rfl
  | d :: ds, vs, 0, h => h
  | d :: ds, vs, n + 1, h => by
    obtain ⟨v, us, rfl, h2, h3⟩ := (show ∃ v ws, vs = v :: ws ∧ RepV C ι H d v ∧ RepL C ι H ds ws from h)
    exact RepL.drop n h3
theorem RepL.set {C : Kc} {ι : List Addr} {H : Hp} {d : D} {v : V} (r : RepV C ι H d v) : ∀ {ds : List D} {vs : List V} (n : Nat), RepL C ι H ds vs → RepL C ι H (ds.set n d) (vs.set n v)
  | [], _, n, h => by
    rw [show _ = [] from h]
    exact rfl
  | x :: ds, vs, 0, h => by
    obtain ⟨y, us, rfl, h2, h3⟩ := (show ∃ v ws, vs = v :: ws ∧ RepV C ι H x v ∧ RepL C ι H ds ws from h)
    exact ⟨v, us, rfl, r, h3⟩
  | x :: ds, vs, n + 1, h => by
    obtain ⟨y, us, rfl, h2, h3⟩ := (show ∃ v ws, vs = v :: ws ∧ RepV C ι H x v ∧ RepL C ι H ds ws from h)
    exact ⟨y, us.set n v, rfl, h2, RepL.set r n h3⟩
theorem RepL.reverse {C : Kc} {ι : List Addr} {H : Hp} : ∀ {ds : List D} {vs : List V}, RepL C ι H ds vs → RepL C ι H ds.reverse vs.reverse
  | [], _, h => by
    rw [show _ = [] from h]
    exact rfl
  | x :: ds, vs, h => by
    obtain ⟨y, us, rfl, h2, h3⟩ := (show ∃ v ws, vs = v :: ws ∧ RepV C ι H x v ∧ RepL C ι H ds ws from h)
    rw [List.reverse_cons, List.reverse_cons]
    exact RepL.append (RepL.reverse h3) ⟨y, [], rfl, h2, rfl⟩
theorem RepL.one {C : Kc} {ι : List Addr} {H : Hp} {d : D} {v : V} (h : RepV C ι H d v) : RepL C ι H [d] [v] := ⟨v, [], rfl, h, rfl⟩
theorem RepL.cons {C : Kc} {ι : List Addr} {H : Hp} {d : D} {v : V} {ds : List D} {vs : List V} (h : RepV C ι H d v) (t : RepL C ι H ds vs) : RepL C ι H (d :: ds) (v :: vs) := ⟨v, vs, rfl, h, t⟩
theorem RepL.ints {C : Kc} {ι : List Addr} {H : Hp} : ∀ ns : List Int, RepL C ι H (ns.map D.int) (ns.map V.int)
  | [] => rfl
  | n :: ns => ⟨_, _, rfl, rfl, RepL.ints ns⟩
theorem RepL.of_ints {C : Kc} {ι : List Addr} {H : Hp} : ∀ {ns : List Int} {vs : List V}, RepL C ι H (ns.map D.int) vs → vs = ns.map V.int
  | [], vs, h => h
  | n :: ns, vs, h => by
    obtain ⟨v, ws, rfl, h2, h3⟩ := (show ∃ v ws, vs = v :: ws ∧ RepV C ι H (.int n) v ∧ RepL C ι H (ns.map D.int) ws from h)
    rw [show v = .int n from h2, RepL.of_ints h3]
    rfl
/-! the heap's cells -/
theorem Rel.inj {C : Kc} {ι : List Addr} {H : Hp} {h : AH} (r : Rel C ι H h) {m n : Nat} {a b : Addr} (e : ι[m]? = some a) (f : ι[n]? = some b) (hn : m ≠ n) : a ≠ b := fun z => by
  subst z
  obtain ⟨h1, e1⟩ := List.getElem?_eq_some_iff.mp e
  obtain ⟨h2, e2⟩ := List.getElem?_eq_some_iff.mp f
  have nd := List.pairwise_iff_getElem.mp r.nd
  rcases Nat.lt_or_gt_of_ne hn with z | z
  · exact nd m n h1 h2 z (e1.trans e2.symm)
  · exact nd n m h2 h1 z (e2.trans e1.symm)
theorem Rel.has {C : Kc} {ι : List Addr} {H : Hp} {h : AH} (r : Rel C ι H h) {a : Addr} (m : a ∈ ι) : ∃ o, H a = some o := by
  obtain ⟨n, hn, rfl⟩ := List.getElem_of_mem m
  have hn' : n < h.length := by
    have := r.len
    omega
  obtain ⟨b, hb, hc⟩ := r.cell n h[n] (List.getElem?_eq_getElem hn')
  obtain rfl : ι[n] = b := by
    rw [List.getElem?_eq_getElem hn] at hb
    exact Option.some.inj hb
  cases e : h[n] <;> rw [e] at hc
  · obtain ⟨vs, h1, _⟩ := hc
    exact ⟨_, h1⟩
  · obtain ⟨vs, o, h1, _⟩ := hc
    exact ⟨_, h1⟩
  · obtain ⟨dx, vs, h1, _⟩ := hc
    exact ⟨_, h1⟩
  · exact hc.elim
  · exact hc
theorem Rel.fresh {C : Kc} {ι : List Addr} {H : Hp} {h : AH} (r : Rel C ι H h) {a : Addr} (n : H a = none) : Off C ι a := ⟨(fun m => by
  obtain ⟨o, e⟩ := r.has m
  rw [n] at e
  cases e), (fun m => by
  obtain ⟨_, o, e⟩ := r.priv a m
  rw [n] at e
  cases e)⟩
theorem CellR.exw {C : Kc} {ι ι' : List Addr} {H H' : Hp} (e : ExW C ι H ι' H') {a : Addr} (k : H' a = H a) {c : Cell} (h : CellR C ι H a c) : CellR C ι' H' a c := by
  cases c with
  | lst ds =>
    obtain ⟨vs, h1, h2, h3⟩ := h
    exact ⟨vs, k.trans h1, h2, h3.exw e⟩
  | ro ds =>
    obtain ⟨vs, o, h1, h2, h3⟩ := h
    exact ⟨vs, o, k.trans h1, h2, h3.exw e⟩
  | ins c fs ds =>
    obtain ⟨dx, vs, h1, h2, h2', h3⟩ := h
    exact ⟨dx, vs, k.trans h1, h2, h2', h3.exw e⟩
  | dic ks ds => exact h
  | dead =>
    obtain ⟨o, h⟩ := h
    exact ⟨o, k.trans h⟩
theorem CellR.ext {C : Kc} {ι ι' : List Addr} {H H' : Hp} (e : Ext ι H ι' H') {a : Addr} (k : H' a = H a) {c : Cell} (h : CellR C ι H a c) : CellR C ι' H' a c := CellR.exw e.w k h
theorem Rel.privs {C : Kc} {ι ι' : List Addr} {H H' : Hp} {h : AH} (r : Rel C ι H h) (e : Ext ι H ι' H') : ∀ a, a ∈ C.pv → a ∉ ι' ∧ ∃ o, H' a = some o := fun a m => by
  obtain ⟨n, o, ho⟩ := r.priv a m
  exact ⟨e.off n ho, o, e.keep a o n ho⟩
/-- a new thing that is no cell -/
theorem ext_new {C : Kc} {ι : List Addr} {H : Hp} {h : AH} (r : Rel C ι H h) {p : Addr} (np : H p = none) (o : HO) : Ext ι H ι (upd H p o) := ⟨List.prefix_refl _, fun _ m n => absurd m n, fun a u n e => by
  rw [upd_ne (ne_of_none e np)]
  exact e⟩
theorem Rel.new {C : Kc} {ι : List Addr} {H : Hp} {h : AH} (r : Rel C ι H h) {p : Addr} (np : H p = none) (o : HO) : Rel C ι (upd H p o) h := by
  refine ⟨r.len, r.nd, r.privs (ext_new r np o), fun n c e => ?_⟩
  obtain ⟨a, ha, hc⟩ := r.cell n c e
  refine ⟨a, ha, hc.ext (ext_new r np o) ?_⟩
  obtain ⟨u, hu⟩ := r.has (List.mem_of_getElem? ha)
  rw [upd_ne (ne_of_none hu np)]
/-- a new cell -/
theorem ext_push {C : Kc} {ι : List Addr} {H : Hp} {h : AH} (r : Rel C ι H h) {p : Addr} (np : H p = none) (o : HO) : Ext ι H (ι ++ [p]) (upd H p o) := ⟨List.prefix_append _ _, fun a m n => by
    rcases List.mem_append.mp m with z | z
    · exact absurd z n
    · rw [List.mem_singleton.mp z]
      exact np, fun a u n e => by
    rw [upd_ne (ne_of_none e np)]
    exact e⟩
theorem Rel.push {C : Kc} {ι : List Addr} {H : Hp} {h : AH} (r : Rel C ι H h) {p : Addr} (np : H p = none) {o : HO} {c : Cell} (hc : CellR C (ι ++ [p]) (upd H p o) p c) : Rel C (ι ++ [p]) (upd H p o) (h ++ [c]) := by
  have e := ext_push r np o
  refine ⟨by rw [List.length_append, List.length_append, r.len]; rfl, ?_, r.privs e, fun n d hd => ?_⟩
  · rw [List.nodup_append]
    exact ⟨r.nd, by simp, fun a ha b hb z => (r.fresh np).1 (by rw [List.mem_singleton.mp hb] at z; rw [← z]; exact ha)⟩
  · by_cases hn : n < h.length
    · rw [List.getElem?_append_left hn] at hd
      obtain ⟨a, ha, h1⟩ := r.cell n d hd
      obtain ⟨u, hu⟩ := r.has (List.mem_of_getElem? ha)
      exact ⟨a, pre_get e.pre ha, h1.ext e (by rw [upd_ne (ne_of_none hu np)])⟩
    · rw [List.getElem?_append_right (by omega)] at hd
      have hz : n - h.length = 0 := by
        have := (List.getElem?_eq_some_iff.mp hd).1
        simp at this
        omega
      rw [hz] at hd
      cases (show some c = some d from hd)
      refine ⟨p, ?_, hc⟩
      rw [List.getElem?_append_right (by rw [r.len]; omega), r.len, hz]
      rfl
/-- a cell written over -/
theorem ext_set {C : Kc} {ι : List Addr} {H : Hp} {h : AH} (r : Rel C ι H h) {n : Nat} {a : Addr} (ha : ι[n]? = some a) (o : HO) : Ext ι H ι (upd H a o) := ⟨List.prefix_refl _, fun _ m k => absurd m k, fun b u k e => by
  rw [upd_ne (fun z => k (by rw [z]; exact List.mem_of_getElem? ha))]
  exact e⟩
theorem Rel.set {C : Kc} {ι : List Addr} {H : Hp} {h : AH} (r : Rel C ι H h) {n : Nat} {a : Addr} (ha : ι[n]? = some a) {o : HO} {c : Cell} (hc : CellR C ι (upd H a o) a c) : Rel C ι (upd H a o) (h.set n c) := by
  have e := ext_set r ha o
  refine ⟨by rw [List.length_set]; exact r.len, r.nd, r.privs e, fun m d hd => ?_⟩
  by_cases hm : n = m
  · subst hm
    have hl := (List.getElem?_eq_some_iff.mp hd).1
    rw [List.length_set] at hl
    rw [List.getElem?_set_self hl] at hd
    cases hd
    exact ⟨a, ha, hc⟩
  · rw [List.getElem?_set_ne hm] at hd
    obtain ⟨b, hb, h1⟩ := r.cell m d hd
    exact ⟨b, hb, h1.ext e (by rw [upd_ne (r.inj hb ha (Ne.symm hm))])⟩
theorem Rel.at {C : Kc} {ι : List Addr} {H : Hp} {h : AH} (r : Rel C ι H h) {n : Nat} {v : V} {c : Cell} (hv : RepV C ι H (.ref n) v) (hc : h[n]? = some c) : ∃ a, v = .ref a ∧ ι[n]? = some a ∧ CellR C ι H a c := by
  obtain ⟨a, h1, h2⟩ := (show ∃ a, ι[n]? = some a ∧ v = .ref a from hv)
  obtain ⟨b, hb, h3⟩ := r.cell n c hc
  rw [h1] at hb
  cases hb
  exact ⟨a, h2, h1, h3⟩
/-- the slots -/
structure Slo (C : Kc) (ι : List Addr) (H : Hp) (σ : L2.St) (δ : AEnv) : Prop where
  len : σ.length = δ.length
  val : ∀ (i : Nat) (d : D), δ[i]? = some (some d) → ∃ v, σ[i]? = some (some v) ∧ RepV C ι H d v
theorem Slo.ext {C : Kc} {ι ι' : List Addr} {H H' : Hp} {σ : L2.St} {δ : AEnv} (e : Ext ι H ι' H') (s : Slo C ι H σ δ) : Slo C ι' H' σ δ := ⟨s.len, fun i d h => by
  obtain ⟨v, h1, h2⟩ := s.val i d h
  exact ⟨v, h1, h2.ext e⟩⟩
theorem Slo.set {C : Kc} {ι : List Addr} {H : Hp} {σ : L2.St} {δ : AEnv} (s : Slo C ι H σ δ) (i : Nat) {d : D} {v : V} (r : RepV C ι H d v) : Slo C ι H (σ.set i (some v)) (δ.set i (some d)) := by
  refine ⟨by rw [List.length_set, List.length_set, s.len], fun j e h => ?_⟩
  by_cases hj : i = j
  · subst hj
    have hl := (List.getElem?_eq_some_iff.mp h).1
    rw [List.length_set] at hl
    rw [List.getElem?_set_self hl] at h
    cases h
    exact ⟨v, by rw [List.getElem?_set_self (by rw [s.len]; exact hl)], r⟩
  · rw [List.getElem?_set_ne hj] at h
    rw [List.getElem?_set_ne hj]
    exact s.val j e h
theorem Slo.off {C : Kc} {ι : List Addr} {H : Hp} {σ : L2.St} {δ : AEnv} (s : Slo C ι H σ δ) (i : Nat) : Slo C ι H (σ.set i none) (δ.set i none) := by
  refine ⟨by rw [List.length_set, List.length_set, s.len], fun j e h => ?_⟩
  by_cases hj : i = j
  · subst hj
    have hl := (List.getElem?_eq_some_iff.mp h).1
    rw [List.length_set] at hl
    rw [List.getElem?_set_self hl] at h
    cases h
  · rw [List.getElem?_set_ne hj] at h
    rw [List.getElem?_set_ne hj]
    exact s.val j e h
end Mr
namespace Mr
open PySem PySem.Spec PyProof.Rows L2 Aq
inductive R (α : Type) where
  | ok (a : α) (h : AH) | er (c : Str) (x : D) (h : AH) | bad
def R.bind {α β : Type} (r : R α) (f : α → AH → R β) : R β := match r with
  | .ok a h => f a h
  | .er c x h => .er c x h
  | .bad => .bad
@[simp] theorem R.bind_ok {α β : Type} {a : α} {h : AH} {f : α → AH → R β} : (R.ok a h).bind f = f a h := rfl
@[simp] theorem R.bind_er {α β : Type} {c : Str} {x : D} {h : AH} {f : α → AH → R β} : (R.er c x h : R α).bind f = .er c x h := rfl
@[simp] theorem R.bind_bad {α β : Type} {f : α → AH → R β} : (R.bad : R α).bind f = .bad := rfl
abbrev AEx := AEnv → AH → R D
abbrev ATs := AEnv → AH → R Bool
abbrev AAs := AEnv → AH → R (List D)
abbrev ASt := AEnv → AH → RS
abbrev AF := List D → AH → R D
def RepX (C : Kc) (ι : List Addr) (H : Hp) (c : Str) (x : D) (cv : Value) (dx : Option Addr) : Prop := cv = .ref (C.kc c) ∧ ∃ d v, dx = some d ∧ H d = some (.xd [(fldOf c, v)]) ∧ Off C ι d ∧ RepV C ι H x v
abbrev Rp (α β : Type) := List Addr → Hp → α → β → Prop
/-- what is wanted of an answer -/
def WG {α β : Type} (rep : Rp α β) (C : Kc) (ι : List Addr) (H : Hp) (σ : L2.St) (W : WX) (Q : β → Hp → Prop) : R α → Prop
  | .ok d h' => ∀ ι' v H', Ext ι H ι' H' → Rel C ι' H' h' → rep ι' H' d v → Q v H'
  | .er c x h' => ∀ ι' cv dx H', Ext ι H ι' H' → Rel C ι' H' h' → RepX C ι' H' c x cv dx → W cv dx σ H'
  | .bad => False
section
variable {α β α' β' : Type} {rep : Rp α β} {rep' : Rp α' β'} {C : Kc} {ι ι1 : List Addr} {H H1 : Hp} {σ : L2.St} {W : WX} {Q Q' : β → Hp → Prop} {r : R α}
theorem WG.ext (e : Ext ι H ι1 H1) (w : WG rep C ι H σ W Q r) : WG rep C ι1 H1 σ W Q r := by
  cases r with
  | ok d h' => exact fun ι' v H' e' => w ι' v H' (e.trans e')
  | er c x h' => exact fun ι' v dx H' e' => w ι' v dx H' (e.trans e')
  | bad => exact w
theorem WG.imp (w : WG rep C ι H σ W Q r) (f : ∀ v H', Q v H' → Q' v H') : WG rep C ι H σ W Q' r := by
  cases r with
  | ok d h' => exact fun ι' v H' e' r' p => f _ _ (w ι' v H' e' r' p)
  | er c x h' => exact w
  | bad => exact w
theorem WG.bind {f : α → AH → R α'} {Q : β' → Hp → Prop} (w : WG rep' C ι H σ W Q (r.bind f)) : WG rep C ι H σ W (fun v H' => ∃ ι' a h', Ext ι H ι' H' ∧ Rel C ι' H' h' ∧ rep ι' H' a v ∧ WG rep' C ι' H' σ W Q (f a h')) r := by
  cases r with
  | ok d h' => exact fun ι' v H' e r p => ⟨ι', d, h', e, r, p, WG.ext e w⟩
  | er c x h' => exact w
  | bad => exact w
end
def RepB : Rp Bool Bool := fun _ _ a b => a = b
/-- the reading that a mirror gives -/
def teA (K : PySem.W.Frag) (kc : Str → Addr) (W : WX) (ae : AEx) : TE := fun σ H Q => ∃ pv, let C : Kc := ⟨K, kc, pv⟩; ∃ ι δ h, Rel C ι H h ∧ Slo C ι H σ δ ∧ WG (RepV C) C ι H σ W Q (ae δ h)
def ttA (K : PySem.W.Frag) (kc : Str → Addr) (W : WX) (ae : ATs) : TT := fun σ H Q => ∃ pv, let C : Kc := ⟨K, kc, pv⟩; ∃ ι δ h, Rel C ι H h ∧ Slo C ι H σ δ ∧ WG RepB C ι H σ W Q (ae δ h)
def taA (K : PySem.W.Frag) (kc : Str → Addr) (W : WX) (n : Nat) (ae : AAs) : TA := fun σ H Q => ∃ pv, let C : Kc := ⟨K, kc, pv⟩; ∃ ι δ h, Rel C ι H h ∧ Slo C ι H σ δ ∧ WG (fun ι H (ds : List D) vs => RepL C ι H ds vs ∧ vs.length = n) C ι H σ W Q (ae δ h)
abbrev Kp (X : Cx) (kc : Str → Addr) (pv : List Addr) : Kc := ⟨X.K, kc, pv⟩
abbrev AE (X : Cx) (kc : Str → Addr) (W : WX) (e : Expr) (ae : AEx) : Prop := PE X e (teA X.K kc W ae)
abbrev AT (X : Cx) (kc : Str → Addr) (W : WX) (e : Expr) (ae : ATs) : Prop := PT X e (ttA X.K kc W ae)
abbrev AW (X : Cx) (kc : Str → Addr) (W : WX) (e : Expr) (ae : ATs) : Prop := PW X e (ttA X.K kc W ae)
abbrev AA (X : Cx) (kc : Str → Addr) (W : WX) (es : List Expr) (ae : AAs) : Prop := PA X es (taA X.K kc W es.length ae)
section
variable {X : Cx} {kc : Str → Addr} {W : WX} {e a b : Expr} {te : TE} {tt : TT} {ta : TA} {ae aa ab : AEx} {at_ : ATs} {es : List Expr} {pos p : Pos}
theorem AE.of (h : PE X e te) (f : ∀ pv ι σ H δ h Q, Rel (Kp X kc pv) ι H h → Slo (Kp X kc pv) ι H σ δ → WG (RepV (Kp X kc pv)) (Kp X kc pv) ι H σ W Q (ae δ h) → te σ H Q) : AE X kc W e ae :=
  ⟨fun pins s σ H Q I ⟨pv, ι, δ, g, rl, sl, w⟩ => h.run pins s σ H Q I (f pv ι σ H δ g Q rl sl w)⟩
theorem AT.of (h : PT X e tt) (f : ∀ pv ι σ H δ h Q, Rel (Kp X kc pv) ι H h → Slo (Kp X kc pv) ι H σ δ → WG RepB (Kp X kc pv) ι H σ W Q (at_ δ h) → tt σ H Q) : AT X kc W e at_ :=
  ⟨fun pins s σ H Q I ⟨pv, ι, δ, g, rl, sl, w⟩ => h.run pins s σ H Q I (f pv ι σ H δ g Q rl sl w)⟩
theorem AW.of (h : PW X e tt) (f : ∀ pv ι σ H δ h Q, Rel (Kp X kc pv) ι H h → Slo (Kp X kc pv) ι H σ δ → WG RepB (Kp X kc pv) ι H σ W Q (at_ δ h) → tt σ H Q) : AW X kc W e at_ :=
  ⟨fun wh pins s σ H Q I ⟨pv, ι, δ, g, rl, sl, w⟩ => h.run wh pins s σ H Q I (f pv ι σ H δ g Q rl sl w)⟩
theorem AA.of {ae : AAs} (h : PA X es ta) (f : ∀ pv ι σ H δ h Q, Rel (Kp X kc pv) ι H h → Slo (Kp X kc pv) ι H σ δ → WG (fun ι H (ds : List D) vs => RepL (Kp X kc pv) ι H ds vs ∧ vs.length = es.length) (Kp X kc pv) ι H σ W Q (ae δ h) → ta σ H Q) : AA X kc W es ae :=
  ⟨fun pos pins s σ H Q I ⟨pv, ι, δ, g, rl, sl, w⟩ => h.run pos pins s σ H Q I (f pv ι σ H δ g Q rl sl w)⟩
/-! names and constants -/
def aVar (i : Nat) : AEx := fun δ h => match δ[i]? with
  | some (some d) => .ok d h
  | _ => .bad
theorem a_pv {i : Nat} (h : PE X e (tVar i)) : AE X kc W e (aVar i) := .of h fun pv ι σ H δ g Q rl sl w => by
  unfold aVar at w
  cases hd : δ[i]? with
  | none =>
    rw [hd] at w
    exact w.elim
  | some o =>
    cases o with
    | none =>
      rw [hd] at w
      exact w.elim
    | some d =>
      rw [hd] at w
      obtain ⟨v, hv, r⟩ := sl.val i d hd
      exact ⟨v, hv, w ι v H .refl rl r⟩
def aC (d : D) : AEx := fun _ h => .ok d h
theorem a_int {i : Int} {k} : AE X kc W (.Constant (.int i) k pos) (aC (.int i)) := .of pe_int fun pv ι σ H δ g Q rl sl w => w ι _ H .refl rl rfl
theorem a_bl {b : Bool} {k} : AE X kc W (.Constant (.bool b) k pos) (aC (.bl b)) := .of pe_bl fun pv ι σ H δ g Q rl sl w => w ι _ H .refl rl rfl
theorem a_non {k} : AE X kc W (.Constant .none k pos) (aC .non) := .of pe_non fun pv ι σ H δ g Q rl sl w => w ι _ H .refl rl rfl
theorem a_str {x : Str} {k} : AE X kc W (.Constant (.str x) k pos) (aC (.str x)) := .of pe_str fun pv ι σ H δ g Q rl sl w => w ι _ H .refl rl rfl
/-- a constant of the module, a number -/
theorem a_gc {i : Int} (h : PE X e (tC (.int i))) : AE X kc W e (aC (.int i)) := .of h fun pv ι σ H δ g Q rl sl w => w ι _ H .refl rl rfl
/-! arguments -/
def aNil : AAs := fun _ h => .ok [] h
def aCons (a : AEx) (r : AAs) : AAs := fun δ h => (a δ h).bind fun d h1 => (r δ h1).bind fun ds h2 => .ok (d :: ds) h2
theorem a_nil : AA X kc W [] aNil := .of pa_nil fun pv ι σ H δ g Q rl sl w => w ι _ H .refl rl ⟨rfl, rfl⟩
theorem a_cons {ar : AAs} (ha : AE X kc W a aa) (hr : AA X kc W es ar) (hst : starEach (a :: es) X.env = (false, eval a X.env) :: starEach es X.env := by rfl) : AA X kc W (a :: es) (aCons aa ar) := .of (pa_cons ha hr hst) fun pv ι σ H δ g Q rl sl w => by
  refine ⟨pv, ι, δ, g, rl, sl, (WG.bind w).imp fun x H1 ⟨ι1, d1, h1, e1, rl1, rp1, w1⟩ => ?_⟩
  refine ⟨pv, ι1, δ, h1, rl1, sl.ext e1, (WG.bind w1).imp fun xs H2 ⟨ι2, ds, h2, e2, rl2, rp2, w2⟩ => ?_⟩
  exact w2 ι2 _ H2 .refl rl2 ⟨.cons (rp1.ext e2) rp2.1, by rw [List.length_cons, List.length_cons, rp2.2]⟩
/-! displays -/
def aTup (t : AAs) : AEx := fun δ h => (t δ h).bind fun ds h1 => .ok (.tup ds) h1
theorem a_tup {t : AAs} {k : Nat} (h : AA X kc W es t) (hl : es.length ≤ 1000 := by decide) (hst : (starEach es X.env).any (·.1) = false := by rfl) : AE X kc W (.Tuple es k pos) (aTup t) := .of (pe_tup h) fun pv ι σ H δ g Q rl sl w => by
  refine ⟨pv, ι, δ, g, rl, sl, (WG.bind w).imp fun xs H1 ⟨ι1, ds, h1, e1, rl1, rp1, w1⟩ => ?_⟩
  refine ⟨Nat.le_trans (by rw [rp1.2]; exact hl) (by decide), fun p np => ?_⟩
  have en := ext_new rl1 np (.tup xs)
  exact w1 ι1 _ _ en (rl1.new np _) ⟨p, xs, rfl, upd_same, rl1.fresh np, Nat.le_trans (by rw [rp1.2]; exact hl) (by decide), rp1.1.ext en⟩
def aVl (t : AAs) : AEx := fun δ h => (t δ h).bind fun ds h1 => .ok (.vl ds) h1
theorem a_vl {t : AAs} (h : AA X kc W es t) (hl : es.length ≤ 1000 := by decide) : AE X kc W (.List es pos) (aVl t) := .of (pe_lst h) fun pv ι σ H δ g Q rl sl w => by
  refine ⟨pv, ι, δ, g, rl, sl, (WG.bind w).imp fun xs H1 ⟨ι1, ds, h1, e1, rl1, rp1, w1⟩ => ?_⟩
  refine ⟨Nat.le_trans (by rw [rp1.2]; exact hl) (by decide), fun p np => ?_⟩
  have en := ext_new rl1 np (.lst xs)
  exact w1 ι1 _ _ en (rl1.new np _) ⟨p, xs, rfl, upd_same, rl1.fresh np, Nat.le_trans (by rw [rp1.2]; exact hl) (by decide), rp1.1.ext en⟩
def aLs (t : AAs) : AEx := fun δ h => (t δ h).bind fun ds h1 => .ok (.ref h1.length) (h1 ++ [.lst ds])
theorem push_at {C : Kc} {ι : List Addr} {H : Hp} {h : AH} (rl : Rel C ι H h) (p : Addr) : (ι ++ [p])[h.length]? = some p := by
  rw [List.getElem?_append_right (by rw [rl.len]; omega), rl.len, Nat.sub_self]
  rfl
theorem a_ls {t : AAs} (h : AA X kc W es t) (hl : es.length ≤ 1000 := by decide) : AE X kc W (.List es pos) (aLs t) := .of (pe_lst h) fun pv ι σ H δ g Q rl sl w => by
  refine ⟨pv, ι, δ, g, rl, sl, (WG.bind w).imp fun xs H1 ⟨ι1, ds, h1, e1, rl1, rp1, w1⟩ => ?_⟩
  refine ⟨Nat.le_trans (by rw [rp1.2]; exact hl) (by decide), fun p np => ?_⟩
  have en := ext_push rl1 np (.lst xs)
  exact w1 (ι1 ++ [p]) _ _ en (rl1.push np ⟨xs, upd_same, Nat.le_trans (by rw [rp1.2]; exact hl) (by decide), rp1.1.ext en⟩) ⟨p, push_at rl1 p, rfl⟩
/-! operators -/
def AOp (C : Kc) (r : R2) (op : D → D → AH → R D) : Prop := ∀ ι H h d1 d2 v w σ (W : WX) Q, Rel C ι H h → RepV C ι H d1 v → RepV C ι H d2 w → WG (RepV C) C ι H σ W Q (op d1 d2 h) → r v w H Q
def aOp (op : D → D → AH → R D) (a b : AEx) : AEx := fun δ h => (a δ h).bind fun x h1 => (b δ h1).bind fun y h2 => op x y h2
theorem tOp_of {K : PySem.W.Frag} {kc : Str → Addr} {pv : List Addr} {r : R2} {op : D → D → AH → R D} (ho : ∀ pv, AOp ⟨K, kc, pv⟩ r op) {ι σ H δ g Q} (rl : Rel ⟨K, kc, pv⟩ ι H g) (sl : Slo ⟨K, kc, pv⟩ ι H σ δ) (w : WG (RepV ⟨K, kc, pv⟩) ⟨K, kc, pv⟩ ι H σ W Q (aOp op aa ab δ g)) : tOp r (teA K kc W aa) (teA K kc W ab) σ H Q := by
  refine ⟨pv, ι, δ, g, rl, sl, (WG.bind w).imp fun x H1 ⟨ι1, d1, h1, e1, rl1, rp1, w1⟩ => ?_⟩
  refine ⟨pv, ι1, δ, h1, rl1, sl.ext e1, (WG.bind w1).imp fun y H2 ⟨ι2, d2, h2, e2, rl2, rp2, w2⟩ => ?_⟩
  exact ho pv ι2 H2 h2 d1 d2 x y σ W Q rl2 (rp1.ext e2) rp2 w2
theorem a_op {o : Operator} {r : R2} {op : D → D → AH → R D} (hr : OpR X (binaryOp o) r) (ho : ∀ pv, AOp (Kp X kc pv) r op) (ha : AE X kc W a aa) (hb : AE X kc W b ab) : AE X kc W (.BinOp a o b pos) (aOp op aa ab) :=
  .of (pe_op hr ha hb) fun pv ι σ H δ g Q rl sl w => tOp_of ho rl sl w
end
end Mr
namespace Mr
open PySem PySem.Spec PyProof.Rows L2 Aq
section
variable {C : Kc} {ι : List Addr} {H : Hp} {h : AH} {v : V} {d : D}
theorem RepV.int {i : Int} (r : RepV C ι H (.int i) v) : v = .int i := r
theorem RepV.bl {i : Bool} (r : RepV C ι H (.bl i) v) : v = .bl i := r
theorem RepV.str {i : Str} (r : RepV C ι H (.str i) v) : v = .str i := r
theorem RepV.non (r : RepV C ι H .non v) : v = .non := r
theorem RepV.tup {ds : List D} (r : RepV C ι H (.tup ds) v) : ∃ a vs, v = .ref a ∧ H a = some (.tup vs) ∧ Off C ι a ∧ vs.length ≤ sizeLine ∧ RepL C ι H ds vs := r
theorem RepV.vl {ds : List D} (r : RepV C ι H (.vl ds) v) : ∃ a vs, v = .ref a ∧ H a = some (.lst vs) ∧ Off C ι a ∧ vs.length ≤ sizeLine ∧ RepL C ι H ds vs := r
theorem RepV.obj {c : Str} {fs : List Str} {ds : List D} (r : RepV C ι H (.obj c fs ds) v) : ∃ a dx vs, v = .ref a ∧ H a = some (.ins (C.kc c) dx (fs.zip vs)) ∧ Off C ι a ∧ fs.length = vs.length ∧ fs.length < 1000 ∧ RepL C ι H ds vs := r
theorem RepV.ref {n : Nat} (r : RepV C ι H (.ref n) v) : ∃ a, ι[n]? = some a ∧ v = .ref a := r
end
/-! ### operators on numbers -/
def iOp (f : Int → Int → D) : D → D → AH → R D := fun x y h => match x, y with
  | .int i, .int j => .ok (f i j) h
  | _, _ => .bad
def iOpC (c : Int → Int → Bool) (f : Int → Int → D) : D → D → AH → R D := fun x y h => match x, y with
  | .int i, .int j => if c i j = true then .ok (f i j) h else .bad
  | _, _ => .bad
section
variable {C : Kc}
theorem ao_i0 {g : Int → Int → V} {f : Int → Int → D} (hf : ∀ ι H i j, RepV C ι H (f i j) (g i j)) : AOp C (rI0 g) (iOp f) := fun ι H h d1 d2 v w σ W Q rl r1 r2 wq => by
  unfold iOp at wq
  split at wq
  · exact ⟨_, _, r1, r2, wq ι _ H .refl rl (hf ..)⟩
  · exact wq.elim
theorem ao_iC {g : Int → Int → V} {f : Int → Int → D} {c : Int → Int → Bool} {P : Int → Int → Prop} (hf : ∀ ι H i j, RepV C ι H (f i j) (g i j)) (hc : ∀ i j, c i j = true → P i j) : AOp C (rI P g) (iOpC c f) := fun ι H h d1 d2 v w σ W Q rl r1 r2 wq => by
  unfold iOpC at wq
  split at wq
  · split at wq
    · rename_i hp
      exact ⟨_, _, r1, r2, hc _ _ hp, wq ι _ H .refl rl (hf ..)⟩
    · exact wq.elim
  · exact wq.elim
def dSub := iOp fun i j => .int (i - j)
def dMod := iOpC (fun _ j => decide (0 < j)) fun i j => .int (i % j)
def dFdv := iOpC (fun _ j => decide (0 < j ∧ j < 1073741824)) fun i j => .int (i / j)
def dPow := iOpC (fun i j => decide (0 ≤ j ∧ j ≤ 1000000 ∧ i.natAbs < 2 ^ 64)) fun i j => .int (i ^ j.toNat)
def dShl := iOpC (fun i j => decide (0 ≤ j ∧ j ≤ 1000000 ∧ i.natAbs < 2 ^ 64)) fun i j => .int (i * 2 ^ j.toNat)
def dShr := iOpC (fun _ j => decide (0 ≤ j)) fun i j => .int (i / 2 ^ j.toNat)
def dAnd := iOp fun i j => .int (Builtin.bitAnd i j)
def dOr := iOp fun i j => .int (Builtin.bitOr i j)
def dXor := iOp fun i j => .int (Builtin.bitXor i j)
def dLt := iOp fun i j => .bl (decide (i < j))
def dLe := iOp fun i j => .bl (decide (i ≤ j))
def dGt := iOp fun i j => .bl (decide (j < i))
def dGe := iOp fun i j => .bl (decide (j ≤ i))
theorem ao_sub : AOp C (rI0 fun i j => .int (i - j)) dSub := ao_i0 fun _ _ _ _ => rfl
theorem ao_mod : AOp C (rI (fun _ j => 0 < j) fun i j => .int (i % j)) dMod := ao_iC (fun _ _ _ _ => rfl) fun _ _ h => of_decide_eq_true h
theorem ao_fdv : AOp C (rI CDiv fun i j => .int (i / j)) dFdv := ao_iC (fun _ _ _ _ => rfl) fun i j h => (show 0 < j ∧ j < 1073741824 from of_decide_eq_true h)
theorem ao_pow : AOp C (rI CPow fun i j => .int (i ^ j.toNat)) dPow := ao_iC (fun _ _ _ _ => rfl) fun i j h => (show 0 ≤ j ∧ j ≤ 1000000 ∧ i.natAbs < 2 ^ 64 from of_decide_eq_true h)
theorem ao_shl : AOp C (rI CPow fun i j => .int (i * 2 ^ j.toNat)) dShl := ao_iC (fun _ _ _ _ => rfl) fun i j h => (show 0 ≤ j ∧ j ≤ 1000000 ∧ i.natAbs < 2 ^ 64 from of_decide_eq_true h)
theorem ao_shr : AOp C (rI (fun _ j => 0 ≤ j) fun i j => .int (i / 2 ^ j.toNat)) dShr := ao_iC (fun _ _ _ _ => rfl) fun _ _ h => of_decide_eq_true h
theorem ao_and : AOp C (rI0 fun i j => .int (Builtin.bitAnd i j)) dAnd := ao_i0 fun _ _ _ _ => rfl
theorem ao_or : AOp C (rI0 fun i j => .int (Builtin.bitOr i j)) dOr := ao_i0 fun _ _ _ _ => rfl
theorem ao_xor : AOp C (rI0 fun i j => .int (Builtin.bitXor i j)) dXor := ao_i0 fun _ _ _ _ => rfl
theorem ao_lt : AOp C (rI0 fun i j => .bl (decide (i < j))) dLt := ao_i0 fun _ _ _ _ => rfl
theorem ao_le : AOp C (rI0 fun i j => .bl (decide (i ≤ j))) dLe := ao_i0 fun _ _ _ _ => rfl
theorem ao_gt : AOp C (rI0 fun i j => .bl (decide (j < i))) dGt := ao_i0 fun _ _ _ _ => rfl
theorem ao_ge : AOp C (rI0 fun i j => .bl (decide (j ≤ i))) dGe := ao_i0 fun _ _ _ _ => rfl
end
/-! ### sequences -/
/-- the items of a list -/
def Cell.lst? : Cell → Option (List D)
  | .lst ds => some ds
  | _ => none
def Cell.seq? : Cell → Option (List D)
  | .lst ds => some ds
  | .ro ds => some ds
  | _ => none
def lstOf (h : AH) : D → Option (List D)
  | .vl ds => some ds
  | .ref n => h[n]?.bind Cell.lst?
  | _ => none
def tupOf : D → Option (List D)
  | .tup ds => some ds
  | _ => none
/-- .. of a list (one that only may be read, too) or tuple -/
def seqOf (h : AH) : D → Option (List D)
  | .vl ds => some ds
  | .tup ds => some ds
  | .ref n => h[n]?.bind Cell.seq?
  | _ => none
section
variable {C : Kc} {ι : List Addr} {H : Hp} {h : AH} {v : V} {d : D} {ds : List D}
theorem lst_of (rl : Rel C ι H h) (r : RepV C ι H d v) (e : lstOf h d = some ds) : ∃ a vs, v = .ref a ∧ H a = some (.lst vs) ∧ vs.length ≤ sizeLine ∧ RepL C ι H ds vs := by
  cases d with
  | vl xs =>
    cases (show some xs = some ds from e)
    obtain ⟨a, vs, h1, h2, h3, h4, h5⟩ := r.vl
    exact ⟨a, vs, h1, h2, h4, h5⟩
  | ref n =>
    obtain ⟨c, hc, ec⟩ := Option.bind_eq_some_iff.mp (show h[n]?.bind Cell.lst? = some ds from e)
    cases c <;> cases ec
    obtain ⟨a, h1, h2, vs, h3, h4, h5⟩ := rl.at r hc
    exact ⟨a, vs, h1, h3, h4, h5⟩
  | _ => cases e
theorem tup_of (r : RepV C ι H d v) (e : tupOf d = some ds) : ∃ a vs, v = .ref a ∧ H a = some (.tup vs) ∧ vs.length ≤ sizeLine ∧ RepL C ι H ds vs := by
  cases d with
  | tup xs =>
    cases (show some xs = some ds from e)
    obtain ⟨a, vs, h1, h2, h3, h4, h5⟩ := r.tup
    exact ⟨a, vs, h1, h2, h4, h5⟩
  | _ => cases e
theorem seq_of (rl : Rel C ι H h) (r : RepV C ι H d v) (e : seqOf h d = some ds) : ∃ a vs, v = .ref a ∧ (Rd H a (.lst vs) ∨ H a = some (.tup vs)) ∧ vs.length ≤ sizeLine ∧ RepL C ι H ds vs := by
  cases d with
  | vl xs =>
    cases (show some xs = some ds from e)
    obtain ⟨a, vs, h1, h2, h3, h4, h5⟩ := r.vl
    exact ⟨a, vs, h1, .inl (.inl h2), h4, h5⟩
  | tup xs =>
    cases (show some xs = some ds from e)
    obtain ⟨a, vs, h1, h2, h3, h4, h5⟩ := r.tup
    exact ⟨a, vs, h1, .inr h2, h4, h5⟩
  | ref n =>
    obtain ⟨c, hc, ec⟩ := Option.bind_eq_some_iff.mp (show h[n]?.bind Cell.seq? = some ds from e)
    cases c <;> cases ec
    · obtain ⟨a, h1, h2, vs, h3, h4, h5⟩ := rl.at r hc
      exact ⟨a, vs, h1, .inl (.inl h3), h4, h5⟩
    · obtain ⟨a, h1, h2, vs, o, h3, h4, h5⟩ := rl.at r hc
      exact ⟨a, vs, h1, .inl (.inr ⟨o, h3⟩), h4, h5⟩
  | _ => cases e
theorem seq_sq {K : PySem.W.Frag} {a : Addr} {vs : List V} (h : Rd H a (.lst vs) ∨ H a = some (.tup vs)) : SqL K H a vs ∨ SqT K H a vs := h.elim (fun z => .inl (.inl z)) fun z => .inr (.inl (.inl z))
theorem new_vl (rl : Rel C ι H h) {p : Addr} (np : H p = none) {vs : List V} (hl : vs.length ≤ sizeLine) (r : RepL C ι H ds vs) : RepV C ι (upd H p (.lst vs)) (.vl ds) (.ref p) := ⟨p, vs, rfl, upd_same, rl.fresh np, hl, r.ext (ext_new rl np _)⟩
theorem new_tup (rl : Rel C ι H h) {p : Addr} (np : H p = none) {vs : List V} (hl : vs.length ≤ sizeLine) (r : RepL C ι H ds vs) : RepV C ι (upd H p (.tup vs)) (.tup ds) (.ref p) := ⟨p, vs, rfl, upd_same, rl.fresh np, hl, r.ext (ext_new rl np _)⟩
end
/-- either rule -/
theorem op_or2 {X : Cx} {f : Value → Value → Sem Value} {r r' : R2} (h : OpR X f r) (h' : OpR X f r') : OpR X f (fun x y H Q => r x y H Q ∨ r' x y H Q) := fun pins s σ H x y v u Q I rx ry q => q.elim (h pins s σ H x y v u Q I rx ry) (h' pins s σ H x y v u Q I rx ry)
def SzOk (n : Nat) : Prop := n ≤ sizeLine
instance (n : Nat) : Decidable (SzOk n) := Nat.decLe ..
theorem szOk {n : Nat} (h : n ≤ 1000000) : SzOk n := Nat.le_trans h (by decide)
def dAdd : D → D → AH → R D
  | .int i, .int j, h => .ok (.int (i + j)) h
  | .tup a, .tup b, h => if SzOk (a.length + b.length) then .ok (.tup (a ++ b)) h else .bad
  | x, y, h => match lstOf h x, lstOf h y with
    | some a, some b => if SzOk (a.length + b.length) then .ok (.vl (a ++ b)) h else .bad
    | _, _ => .bad
def rAddA (K : PySem.W.Frag) : R2 := fun x y H Q => rI0 (fun i j => .int (i + j)) x y H Q ∨ (rCatA K x y H Q ∨ rCat x y H Q)
theorem op_addA {X : Cx} : OpR X (binaryOp .Add) (rAddA X.K) := op_or2 op_add (op_or2 op_catA op_cat)
theorem ao_add {C : Kc} : AOp C (rAddA C.K) dAdd := fun ι H h d1 d2 v w σ W Q rl r1 r2 wq => by
  unfold dAdd at wq
  split at wq
  · exact .inl ⟨_, _, r1, r2, wq ι _ H .refl rl rfl⟩
  · rename_i hh a b
    split at wq
    · rename_i hz
      obtain ⟨p, vs, rfl, hp, np, lp, rp⟩ := r1.tup
      obtain ⟨q, ws, rfl, hq, nq, lq, rq⟩ := r2.tup
      have e1 := rp.length
      have e2 := rq.length
      have hz' : vs.length + ws.length ≤ sizeLine := by rw [← e1, ← e2]; exact hz
      refine .inr (.inl ⟨p, q, vs, ws, rfl, rfl, .inl (.inl hp), .inl (.inl hq), hz', ?_⟩)
      have fin : ∀ c, H c = none → Q (.ref c) (upd H c (.tup (vs ++ ws))) := fun c nc => wq ι _ _ (ext_new rl nc _) (rl.new nc _) (new_tup rl nc (by rw [List.length_append]; exact hz') (rp.append rq))
      have l1 : vs = [] → Q (.ref q) H := fun z => by
        have y : a = [] := List.eq_nil_of_length_eq_zero (by rw [e1, z]; rfl)
        refine wq ι _ _ .refl rl ?_
        rw [y, List.nil_append]
        exact r2
      have l2 : ws = [] → Q (.ref p) H := fun z => by
        have y : b = [] := List.eq_nil_of_length_eq_zero (by rw [e2, z]; rfl)
        refine wq ι _ _ .refl rl ?_
        rw [y, List.append_nil]
        exact r1
      exact ⟨l1, fun _ => l2, fun _ _ => fin⟩
    · exact wq.elim
  · split at wq
    · rename_i a b ea eb
      split at wq
      · rename_i hz
        obtain ⟨p, vs, rfl, hp, lp, rp⟩ := lst_of rl r1 ea
        obtain ⟨q, ws, rfl, hq, lq, rq⟩ := lst_of rl r2 eb
        have hz' : vs.length + ws.length ≤ sizeLine := by rw [← rp.length, ← rq.length]; exact hz
        exact .inr (.inr ⟨p, q, vs, ws, rfl, rfl, hp, hq, hz', fun c nc => wq ι _ _ (ext_new rl nc _) (rl.new nc _) (new_vl rl nc (by rw [List.length_append]; exact hz') (rp.append rq))⟩)
      · exact wq.elim
    · exact wq.elim
end Mr
namespace Mr
open PySem PySem.Spec PyProof.Rows L2 Aq
/-! ### a * b -/
def dMul : D → D → AH → R D
  | .int i, .int j, h => if decide ((-(2 ^ 64) < i ∧ i < 2 ^ 64) ∨ (-(2 ^ 64) < j ∧ j < 2 ^ 64)) = true then .ok (.int (i * j)) h else .bad
  | x, .int k, h => match lstOf h x with
    | some a => if decide (-(2 ^ 63) ≤ k ∧ k < 2 ^ 63) = true ∧ SzOk (a.length * k.toNat) then .ok (.vl (List.replicate k.toNat a).flatten) h else .bad
    | none => .bad
  | _, _, _ => .bad
def rMulA : R2 := fun x y H Q => rI CMul (fun i j => .int (i * j)) x y H Q ∨ rRep x y H Q
theorem op_mulA {X : Cx} : OpR X (binaryOp .Mult) rMulA := op_or2 op_mul op_rep
theorem RepL.flatten {C : Kc} {ι : List Addr} {H : Hp} {ds : List D} {vs : List V} (r : RepL C ι H ds vs) : ∀ n : Nat, RepL C ι H (List.replicate n ds).flatten (List.replicate n vs).flatten
  | 0 => rfl
  | n + 1 => by
    rw [List.replicate_succ, List.replicate_succ, List.flatten_cons, List.flatten_cons]
    exact r.append (RepL.flatten r n)
theorem length_rep {α : Type} (xs : List α) (n : Nat) : (List.replicate n xs).flatten.length = xs.length * n := by
  induction n with
  | zero => rfl
  | succ n ih => rw [List.replicate_succ, List.flatten_cons, List.length_append, ih, Nat.mul_succ, Nat.add_comm]
theorem ao_mul {C : Kc} : AOp C rMulA dMul := fun ι H h d1 d2 v w σ W Q rl r1 r2 wq => by
  unfold dMul at wq
  split at wq
  · split at wq
    · rename_i hh i j hc
      exact .inl ⟨i, j, r1, r2, (show (-(2 ^ 64) < i ∧ i < 2 ^ 64) ∨ (-(2 ^ 64) < j ∧ j < 2 ^ 64) from of_decide_eq_true hc), wq ι _ H .refl rl rfl⟩
    · exact wq.elim
  · split at wq
    · rename_i k _ _ a ea
      split at wq
      · rename_i hz
        obtain ⟨hk, hz⟩ := hz
        have hk' := of_decide_eq_true hk
        obtain ⟨p, vs, rfl, hp, lp, rp⟩ := lst_of rl r1 ea
        have hz' : vs.length * k.toNat ≤ sizeLine := by rw [← rp.length]; exact hz
        exact .inr ⟨p, k, vs, rfl, r2, hp, hk'.1, hk'.2, hz', fun c nc => wq ι _ _ (ext_new rl nc _) (rl.new nc _) (new_vl rl nc (by rw [length_rep]; exact hz') (rp.flatten _))⟩
      · exact wq.elim
    · exact wq.elim
  · exact wq.elim
/-- [x] * n, a new cell -/
def aRep (a b : AEx) : AEx := fun δ h => (a δ h).bind fun x h1 => (b δ h1).bind fun y h2 => match lstOf h2 x, y with
  | some a, .int k => if decide (-(2 ^ 63) ≤ k ∧ k < 2 ^ 63) = true ∧ SzOk (a.length * k.toNat) then .ok (.ref h2.length) (h2 ++ [.lst (List.replicate k.toNat a).flatten]) else .bad
  | _, _ => .bad
theorem a_rep {X : Cx} {kc : Str → Addr} {W : WX} {a b : Expr} {aa ab : AEx} {pos : Pos} (ha : AE X kc W a aa) (hb : AE X kc W b ab) : AE X kc W (.BinOp a .Mult b pos) (aRep aa ab) :=
  .of (pe_op op_rep ha hb) fun pv ι σ H δ g Q rl sl w => by
  refine ⟨pv, ι, δ, g, rl, sl, (WG.bind w).imp fun x H1 ⟨ι1, d1, h1, e1, rl1, rp1, w1⟩ => ?_⟩
  refine ⟨pv, ι1, δ, h1, rl1, sl.ext e1, (WG.bind w1).imp fun y H2 ⟨ι2, d2, h2, e2, rl2, rp2, w2⟩ => ?_⟩
  split at w2
  · rename_i a k ea
    split at w2
    · rename_i hz
      obtain ⟨hk, hz⟩ := hz
      have hk' := of_decide_eq_true hk
      obtain ⟨p, vs, rfl, hp, lp, rp⟩ := lst_of rl2 (rp1.ext e2) ea
      have hz' : vs.length * k.toNat ≤ sizeLine := by rw [← rp.length]; exact hz
      refine ⟨p, k, vs, rfl, rp2, hp, hk'.1, hk'.2, hz', fun c nc => ?_⟩
      have en := ext_push rl2 nc (.lst (List.replicate k.toNat vs).flatten)
      exact w2 (ι2 ++ [c]) _ _ en (rl2.push nc ⟨_, upd_same, by rw [length_rep]; exact hz', (rp.flatten _).ext en⟩) ⟨c, push_at rl2 c, rfl⟩
    · exact w2.elim
  · exact w2.elim
/-! ### == of plain data -/
mutual
def toPy : D → Option PyData
  | .non => some .none
  | .bl b => some (.bool b)
  | .int i => some (.int i)
  | .str x => some (.str x)
  | .tup ds => (toPyL ds).map .tuple
  | .vl ds => (toPyL ds).map .list
  | .obj .. => none
  | .ref _ => none
def toPyL : List D → Option (List PyData)
  | [] => some []
  | d :: ds => match toPy d, toPyL ds with
    | some x, some xs => some (x :: xs)
    | _, _ => none
end
def toPy1 (h : AH) : D → Option PyData
  | .ref n => match h[n]?.bind Cell.lst? with
    | some ds => (toPyL ds).map .list
    | none => none
  | d => toPy d
mutual
theorem py_of {C : Kc} {ι : List Addr} {H : Hp} : ∀ {d : D} {v : V} {p : PyData}, RepV C ι H d v → toPy d = some p → Dp C.K H v p
  | .non, v, p, r, e => by
    cases e
    rw [r.non]
    exact .non
  | .bl b, v, p, r, e => by
    cases e
    rw [r.bl]
    exact .bl b
  | .int b, v, p, r, e => by
    cases e
    rw [r.int]
    exact .int b
  | .str b, v, p, r, e => by
    cases e
    rw [r.str]
    exact .str b
  | .tup ds, v, p, r, e => by
    obtain ⟨a, vs, rfl, h1, _, _, h3⟩ := r.tup
    obtain ⟨xs, hx, rfl⟩ := Option.map_eq_some_iff.mp (show (toPyL ds).map PyData.tuple = some p from e)
    exact .tup (.inl (.inl h1)) (pyL_of h3 hx)
  | .vl ds, v, p, r, e => by
    obtain ⟨a, vs, rfl, h1, _, _, h3⟩ := r.vl
    obtain ⟨xs, hx, rfl⟩ := Option.map_eq_some_iff.mp (show (toPyL ds).map PyData.list = some p from e)
    exact .lst (.inl (.inl h1)) (pyL_of h3 hx)
  | .obj .., v, p, r, e => by cases e
  | .ref _, v, p, r, e => by cases e
theorem pyL_of {C : Kc} {ι : List Addr} {H : Hp} : ∀ {ds : List D} {vs : List V} {ps : List PyData}, RepL C ι H ds vs → toPyL ds = some ps → DpAll C.K H vs ps
  | [], vs, ps, r, e => by
    cases (show some [] = some ps from e)
    rw [show vs = [] from r]
    exact .nil
  | d :: ds, vs, ps, r, e => by
    obtain ⟨v, ws, rfl, h2, h3⟩ := (show ∃ v ws, vs = v :: ws ∧ RepV C ι H d v ∧ RepL C ι H ds ws from r)
    have e' : (match toPy d, toPyL ds with
      | some x, some xs => some (x :: xs)
      | _, _ => none) = some ps := e
    split at e'
    · rename_i x xs hx hxs
      cases e'
      exact .cons (py_of h2 hx) (pyL_of h3 hxs)
    · cases e'
end
theorem py1_of {C : Kc} {ι : List Addr} {H : Hp} {h : AH} {d : D} {v : V} {p : PyData} (rl : Rel C ι H h) (r : RepV C ι H d v) (e : toPy1 h d = some p) : Dp C.K H v p := by
  cases d with
  | ref n =>
    have e' : (match h[n]?.bind Cell.lst? with
      | some ds => (toPyL ds).map PyData.list
      | none => none) = some p := e
    split at e'
    · rename_i ds hd
      obtain ⟨a, vs, rfl, h1, _, h3⟩ := lst_of (d := .ref n) rl r hd
      obtain ⟨xs, hx, rfl⟩ := Option.map_eq_some_iff.mp e'
      exact .lst (.inl (.inl h1)) (pyL_of h3 hx)
    · cases e'
  | _ => exact py_of r e
def dEq (neg : Bool) : D → D → AH → R D := fun x y h => match toPy1 h x, toPy1 h y with
  | some p, some q => if SeqAt.shaped p && SeqAt.shaped q then .ok (.bl (if neg then !PyData.eqv p q else PyData.eqv p q)) h else .bad
  | _, _ => .bad
theorem ao_eq {C : Kc} : AOp C (rEqD C.K) (dEq false) := fun ι H h d1 d2 v w σ W Q rl r1 r2 wq => by
  unfold dEq at wq
  split at wq
  · rename_i p q hp hq
    split at wq
    · rename_i hs
      obtain ⟨s1, s2⟩ := Bool.and_eq_true_iff.mp hs
      exact ⟨p, q, py1_of rl r1 hp, py1_of rl r2 hq, s1, s2, wq ι _ H .refl rl rfl⟩
    · exact wq.elim
  · exact wq.elim
theorem ao_ne {C : Kc} : AOp C (rNeD C.K) (dEq true) := fun ι H h d1 d2 v w σ W Q rl r1 r2 wq => by
  unfold dEq at wq
  split at wq
  · rename_i p q hp hq
    split at wq
    · rename_i hs
      obtain ⟨s1, s2⟩ := Bool.and_eq_true_iff.mp hs
      exact ⟨p, q, py1_of rl r1 hp, py1_of rl r2 hq, s1, s2, wq ι _ H .refl rl rfl⟩
    · exact wq.elim
  · exact wq.elim
/-! ### in -/
def toV : D → V
  | .bl b => .bl b
  | .int i => .int i
  | .str x => .str x
  | _ => .non
def flatD : D → Bool
  | .non => true
  | .bl _ => true
  | .int _ => true
  | .str _ => true
  | _ => false
theorem flat_of {C : Kc} {ι : List Addr} {H : Hp} {d : D} {v : V} (r : RepV C ι H d v) (f : flatD d = true) : v = toV d ∧ flatV v = true := by
  cases d with
  | non => rw [r.non]; exact ⟨rfl, rfl⟩
  | bl b => rw [r.bl]; exact ⟨rfl, rfl⟩
  | int b => rw [r.int]; exact ⟨rfl, rfl⟩
  | str b => rw [r.str]; exact ⟨rfl, rfl⟩
  | _ => cases f
theorem flats_of {C : Kc} {ι : List Addr} {H : Hp} : ∀ {ds : List D} {vs : List V}, RepL C ι H ds vs → ds.all flatD = true → vs = ds.map toV ∧ vs.all flatV = true
  | [], vs, r, _ => by
    rw [show vs = [] from r]
    exact ⟨rfl, rfl⟩
  | d :: ds, vs, r, f => by
    obtain ⟨v, ws, rfl, h2, h3⟩ := (show ∃ v ws, vs = v :: ws ∧ RepV C ι H d v ∧ RepL C ι H ds ws from r)
    rw [List.all_cons, Bool.and_eq_true] at f
    obtain ⟨e1, e2⟩ := flat_of h2 f.1
    obtain ⟨e3, e4⟩ := flats_of h3 f.2
    refine ⟨by rw [List.map_cons, ← e1, ← e3], ?_⟩
    rw [List.all_cons, e2, e4]
    rfl
def flatSeq (h : AH) (x y : D) : Option (List D) := match seqOf h y with
  | some ds => if (flatD x && ds.all flatD) = true then some ds else none
  | none => none
def dIn (neg : Bool) : D → D → AH → R D := fun x y h => match flatSeq h x y with
  | some ds => .ok (.bl (if neg then !inV (toV x) (ds.map toV) else inV (toV x) (ds.map toV))) h
  | none => match toPy1 h x, (lstOf h y).bind toPyL with
    | some p, some ps => if SeqAt.shaped p && SeqAt.shaped (.list ps) then .ok (.bl (if neg then !(ps.any fun z => PyData.eqv z p) else ps.any fun z => PyData.eqv z p)) h else .bad
    | _, _ => .bad
def rInA (K : PySem.W.Frag) : R2 := fun x y H Q => rIn K false x y H Q ∨ rInD K x y H Q
def rNotInA (K : PySem.W.Frag) : R2 := fun x y H Q => rIn K true x y H Q ∨ rNotInD K x y H Q
theorem op_inA {X : Cx} (hu : X.A.units + 65 < cLine) : OpR X (compareOp .In) (rInA X.K) := op_or2 op_in_seq (op_inD hu)
theorem op_notInA {X : Cx} (hu : X.A.units + 65 < cLine) : OpR X (compareOp .NotIn) (rNotInA X.K) := op_or2 op_notIn_seq (op_notInD hu)
theorem flatSeq_of {h : AH} {x y : D} {ds : List D} (e : flatSeq h x y = some ds) : seqOf h y = some ds ∧ flatD x = true ∧ ds.all flatD = true := by
  unfold flatSeq at e
  split at e
  · split at e
    · rename_i hf
      cases e
      exact ⟨by assumption, (Bool.and_eq_true_iff.mp hf).1, (Bool.and_eq_true_iff.mp hf).2⟩
    · cases e
  · cases e
theorem lstD_of {C : Kc} {ι : List Addr} {H : Hp} {h : AH} {y : D} {w : V} {ps : List PyData} (rl : Rel C ι H h) (r : RepV C ι H y w) (e : (lstOf h y).bind toPyL = some ps) : Dp C.K H w (.list ps) := by
  obtain ⟨ds, h1, h2⟩ := Option.bind_eq_some_iff.mp e
  obtain ⟨a, vs, rfl, h3, _, h4⟩ := lst_of rl r h1
  exact .lst (.inl (.inl h3)) (pyL_of h4 h2)
theorem ao_in {C : Kc} : AOp C (rInA C.K) (dIn false) := fun ι H h d1 d2 v w σ W Q rl r1 r2 wq => by
  unfold dIn at wq
  split at wq
  · rename_i ds hd
    obtain ⟨h1, h2, h3⟩ := flatSeq_of hd
    obtain ⟨a, vs, rfl, hs, _, rp⟩ := seq_of rl r2 h1
    obtain ⟨e1, f1⟩ := flat_of r1 h2
    obtain ⟨e2, f2⟩ := flats_of rp h3
    refine .inl ⟨a, vs, rfl, seq_sq hs, f1, f2, ?_⟩
    have q := wq ι _ H .refl rl rfl
    rw [e1, e2]
    exact q
  · split at wq
    · rename_i p ps hp hps
      split at wq
      · rename_i hs
        obtain ⟨s1, s2⟩ := Bool.and_eq_true_iff.mp hs
        exact .inr ⟨p, ps, py1_of rl r1 hp, lstD_of rl r2 hps, s1, s2, wq ι _ H .refl rl rfl⟩
      · exact wq.elim
    · exact wq.elim
theorem ao_notIn {C : Kc} : AOp C (rNotInA C.K) (dIn true) := fun ι H h d1 d2 v w σ W Q rl r1 r2 wq => by
  unfold dIn at wq
  split at wq
  · rename_i ds hd
    obtain ⟨h1, h2, h3⟩ := flatSeq_of hd
    obtain ⟨a, vs, rfl, hs, _, rp⟩ := seq_of rl r2 h1
    obtain ⟨e1, f1⟩ := flat_of r1 h2
    obtain ⟨e2, f2⟩ := flats_of rp h3
    refine .inl ⟨a, vs, rfl, seq_sq hs, f1, f2, ?_⟩
    have q := wq ι _ H .refl rl rfl
    rw [e1, e2]
    exact q
  · split at wq
    · rename_i p ps hp hps
      split at wq
      · rename_i hs
        obtain ⟨s1, s2⟩ := Bool.and_eq_true_iff.mp hs
        exact .inr ⟨p, ps, py1_of rl r1 hp, lstD_of rl r2 hps, s1, s2, wq ι _ H .refl rl rfl⟩
      · exact wq.elim
    · exact wq.elim
/-! ### is None -/
def isNon : D → Bool
  | .non => true
  | _ => false
theorem non_iff {C : Kc} {ι : List Addr} {H : Hp} {d : D} {v : V} (r : RepV C ι H d v) : decide (v = .non) = isNon d := by
  cases d with
  | non => rw [r.non]; rfl
  | bl b => rw [r.bl]; rfl
  | int b => rw [r.int]; rfl
  | str b => rw [r.str]; rfl
  | tup ds => obtain ⟨a, vs, rfl, _⟩ := r.tup; rfl
  | vl ds => obtain ⟨a, vs, rfl, _⟩ := r.vl; rfl
  | obj c fs ds => obtain ⟨a, dx, vs, rfl, _⟩ := r.obj; rfl
  | ref n => obtain ⟨a, _, rfl⟩ := r.ref; rfl
def dIs (neg : Bool) : D → D → AH → R D := fun x y h => match y with
  | .non => .ok (.bl (if neg then !isNon x else isNon x)) h
  | _ => .bad
theorem ao_isN {C : Kc} : AOp C (fun x y H Q => y = .non ∧ Q (.bl (decide (x = .non))) H) (dIs false) := fun ι H h d1 d2 v w σ W Q rl r1 r2 wq => by
  unfold dIs at wq
  split at wq
  · refine ⟨r2, ?_⟩
    rw [non_iff r1]
    exact wq ι _ H .refl rl rfl
  · exact wq.elim
theorem ao_notN {C : Kc} : AOp C (fun x y H Q => y = .non ∧ Q (.bl (!decide (x = .non))) H) (dIs true) := fun ι H h d1 d2 v w σ W Q rl r1 r2 wq => by
  unfold dIs at wq
  split at wq
  · refine ⟨r2, ?_⟩
    rw [non_iff r1]
    exact wq ι _ H .refl rl rfl
  · exact wq.elim
/-! ### comparisons, tests -/
section
variable {X : Cx} {kc : Str → Addr} {W : WX} {e a b c : Expr} {ae aa ab ac : AEx} {ta tb : ATs} {pos : Pos} {rest : List Expr} {r r' : R2} {o o' : CmpOp} {op op' : D → D → AH → R D}
theorem a_cmp (hr : OpR X (compareOp o) r) (ho : ∀ pv, AOp (Kp X kc pv) r op) (ha : AE X kc W a aa) (hb : AE X kc W b ab) (hm : behindInMarks o b = false) : AE X kc W (.Compare a [o] [b] pos) (aOp op aa ab) :=
  .of (pe_cmpR hr ha hb hm) fun pv ι σ H δ g Q rl sl w => tOp_of ho rl sl w
def boolR : R D → R Bool := fun r => r.bind fun d h => match d with
  | .bl b => .ok b h
  | _ => .bad
def aB (a : AEx) : ATs := fun δ h => boolR (a δ h)
theorem boolR_wg {C : Kc} {ι : List Addr} {H : Hp} {σ : L2.St} {Q : Bool → Hp → Prop} {r : R D} (w : WG RepB C ι H σ W Q (boolR r)) : WG (RepV C) C ι H σ W (fun x H' => ∃ k, x = .bl k ∧ Q k H') r := by
  refine (WG.bind w).imp fun x H1 ⟨ι1, d1, h1, e1, rl1, rp1, w1⟩ => ?_
  split at w1
  · rename_i b
    exact ⟨b, rp1, w1 ι1 _ H1 .refl rl1 rfl⟩
  · exact w1.elim
theorem t_cmp (hr : OpR X (compareOp o) r) (ho : ∀ pv, AOp (Kp X kc pv) r op) (ha : AE X kc W a aa) (hb : AE X kc W b ab) (hm : behindInMarks o b = false) : AT X kc W (.Compare a [o] [b] pos) (aB (aOp op aa ab)) :=
  .of (pt_cmpR hr ha hb hm) fun pv ι σ H δ g Q rl sl w => tOp_of (Q := fun x H' => ∃ k, x = .bl k ∧ Q k H') ho rl sl (boolR_wg w)
theorem t_val (ha : AE X kc W a aa) (he : ∀ whole, isTrue a X.env whole = (do let v ← whole; standAt a.pos; holding [v] (truthy v)) := by intro _; rfl) : AT X kc W a (aB aa) :=
  .of (pt_val ha he) fun pv ι σ H δ g Q rl sl w => ⟨pv, ι, δ, g, rl, sl, boolR_wg w⟩
def aChain (op op' : D → D → AH → R D) (a b c : AEx) : AEx := fun δ h => (a δ h).bind fun x h1 => (b δ h1).bind fun y h2 => (boolR (op x y h2)).bind fun k h3 => if k = true then (c δ h3).bind fun z h4 => op' y z h4 else .ok (.bl false) h3
theorem tChain_of {K : PySem.W.Frag} {kc : Str → Addr} {pv : List Addr} (ho : ∀ pv, AOp ⟨K, kc, pv⟩ r op) (ho' : ∀ pv, AOp ⟨K, kc, pv⟩ r' op') {ι σ H δ g Q} (rl : Rel ⟨K, kc, pv⟩ ι H g) (sl : Slo ⟨K, kc, pv⟩ ι H σ δ) (w : WG (RepV ⟨K, kc, pv⟩) ⟨K, kc, pv⟩ ι H σ W Q (aChain op op' aa ab ac δ g)) : tChain r r' (teA K kc W aa) (teA K kc W ab) (teA K kc W ac) σ H Q := by
  refine ⟨pv, ι, δ, g, rl, sl, (WG.bind w).imp fun x H1 ⟨ι1, d1, h1, e1, rl1, rp1, w1⟩ => ?_⟩
  refine ⟨pv, ι1, δ, h1, rl1, sl.ext e1, (WG.bind w1).imp fun y H2 ⟨ι2, d2, h2, e2, rl2, rp2, w2⟩ => ?_⟩
  refine ho pv ι2 H2 h2 d1 d2 x y σ W _ rl2 (rp1.ext e2) rp2 ?_
  have w3 := boolR_wg (WG.bind (rep := RepB) w2)
  refine w3.imp fun z H3 ⟨k, ez, ι3, k', h3, e3, rl3, rk, w4⟩ => ⟨k, ez, ?_⟩
  have rk' : k' = k := rk
  subst rk'
  cases k' with
  | true =>
    refine ⟨pv, ι3, δ, h3, rl3, sl.ext ((e1.trans e2).trans e3), (WG.bind (show WG (RepV ⟨K, kc, pv⟩) ⟨K, kc, pv⟩ ι3 H3 σ W Q ((ac δ h3).bind fun z h4 => op' d2 z h4) from w4)).imp fun z H4 ⟨ι4, d4, h4, e4, rl4, rp4, w5⟩ => ?_⟩
    exact ho' pv ι4 H4 h4 d2 d4 y z σ W Q rl4 (rp2.ext (e3.trans e4)) rp4 w5
  | false => exact (show WG (RepV ⟨K, kc, pv⟩) ⟨K, kc, pv⟩ ι3 H3 σ W Q (.ok (.bl false) h3) from w4) ι3 _ H3 .refl rl3 rfl
end
end Mr
namespace Mr
open PySem PySem.Spec PyProof.Rows L2 Aq
section
variable {X : Cx} {kc : Str → Addr} {W : WX} {e a b c : Expr} {ae aa ab ac : AEx} {ta tb : ATs} {pos : Pos} {rest : List Expr} {r r' : R2} {o o' : CmpOp} {op op' : D → D → AH → R D}
theorem a_chain (hr : OpR X (compareOp o) r) (ho : ∀ pv, AOp (Kp X kc pv) r op) (hr' : OpR X (compareOp o') r') (ho' : ∀ pv, AOp (Kp X kc pv) r' op') (ha : AE X kc W a aa) (hb : AE X kc W b ab) (hc : AE X kc W c ac)
    (hm : lastMarks [o, o'] [b, c] = false := by with_unfolding_all rfl) : AE X kc W (.Compare a [o, o'] [b, c] pos) (aChain op op' aa ab ac) :=
  .of (pe_chain hr hr' ha hb hc hm) fun pv ι σ H δ g Q rl sl w => tChain_of ho ho' rl sl w
theorem t_chain (hr : OpR X (compareOp o) r) (ho : ∀ pv, AOp (Kp X kc pv) r op) (hr' : OpR X (compareOp o') r') (ho' : ∀ pv, AOp (Kp X kc pv) r' op') (ha : AE X kc W a aa) (hb : AE X kc W b ab) (hc : AE X kc W c ac)
    (hm : lastMarks [o, o'] [b, c] = false := by with_unfolding_all rfl) : AT X kc W (.Compare a [o, o'] [b, c] pos) (aB (aChain op op' aa ab ac)) :=
  .of (pt_chain hr hr' ha hb hc hm) fun pv ι σ H δ g Q rl sl w => tChain_of (Q := fun x H' => ∃ k, x = .bl k ∧ Q k H') ho ho' rl sl (boolR_wg w)
def aAnd (a b : ATs) : ATs := fun δ h => (a δ h).bind fun k h1 => if k = true then b δ h1 else .ok false h1
def aOr (a b : ATs) : ATs := fun δ h => (a δ h).bind fun k h1 => if k = true then .ok true h1 else b δ h1
def aNot (a : ATs) : ATs := fun δ h => (a δ h).bind fun k h1 => .ok (!k) h1
theorem WG.bindB {β' : Type} {α' : Type} {rep' : Rp α' β'} {C : Kc} {ι : List Addr} {H : Hp} {σ : L2.St} {Q : β' → Hp → Prop} {r : R Bool} {f : Bool → AH → R α'} (w : WG rep' C ι H σ W Q (r.bind f)) :
    WG RepB C ι H σ W (fun k H' => ∃ ι' h', Ext ι H ι' H' ∧ Rel C ι' H' h' ∧ WG rep' C ι' H' σ W Q (f k h')) r := (WG.bind (rep := RepB) w).imp fun k H' ⟨ι', k', h', e, rl, rk, w'⟩ => by
  have rk' : k' = k := rk
  subst rk'
  exact ⟨ι', h', e, rl, w'⟩
theorem w_and1 (ha : AT X kc W a ta) : AW X kc W (.BoolOp .And [a] pos) ta := pw_and1 ha
theorem w_or1 (ha : AT X kc W a ta) : AW X kc W (.BoolOp .Or [a] pos) ta := pw_or1 ha
theorem w_and (ha : AT X kc W a ta) (hb : AW X kc W (.BoolOp .And (b :: rest) pos) tb) : AW X kc W (.BoolOp .And (a :: b :: rest) pos) (aAnd ta tb) := .of (pw_and ha hb) fun pv ι σ H δ g Q rl sl w => by
  refine ⟨pv, ι, δ, g, rl, sl, (WG.bindB w).imp fun k H1 ⟨ι1, h1, e1, rl1, w1⟩ => ?_⟩
  cases k with
  | true => exact ⟨pv, ι1, δ, h1, rl1, sl.ext e1, w1⟩
  | false => exact w1 ι1 _ H1 .refl rl1 rfl
theorem w_or (ha : AT X kc W a ta) (hb : AW X kc W (.BoolOp .Or (b :: rest) pos) tb) : AW X kc W (.BoolOp .Or (a :: b :: rest) pos) (aOr ta tb) := .of (pw_or ha hb) fun pv ι σ H δ g Q rl sl w => by
  refine ⟨pv, ι, δ, g, rl, sl, (WG.bindB w).imp fun k H1 ⟨ι1, h1, e1, rl1, w1⟩ => ?_⟩
  cases k with
  | false => exact ⟨pv, ι1, δ, h1, rl1, sl.ext e1, w1⟩
  | true => exact w1 ι1 _ H1 .refl rl1 rfl
theorem t_w (h : AW X kc W a ta) : AT X kc W a ta := h.pt
theorem t_not (ha : AT X kc W a ta) : AT X kc W (.UnaryOp .Not a pos) (aNot ta) := .of (pt_not ha) fun pv ι σ H δ g Q rl sl w =>
  ⟨pv, ι, δ, g, rl, sl, (WG.bindB w).imp fun k H1 ⟨ι1, h1, e1, rl1, w1⟩ => w1 ι1 _ H1 .refl rl1 rfl⟩
/-- as values, all but the last True or False -/
def aAndV (a b : AEx) : AEx := fun δ h => (boolR (a δ h)).bind fun k h1 => if k = true then b δ h1 else .ok (.bl false) h1
def aOrV (a b : AEx) : AEx := fun δ h => (boolR (a δ h)).bind fun k h1 => if k = true then .ok (.bl true) h1 else b δ h1
def aNotV (a : AEx) : AEx := fun δ h => (boolR (a δ h)).bind fun k h1 => .ok (.bl (!k)) h1
theorem a_one {o : BoolOp} (ha : AE X kc W a aa) : AE X kc W (.BoolOp o [a] pos) aa := pe_one ha
theorem a_and (ha : AE X kc W a aa) (hb : AE X kc W (.BoolOp .And (b :: rest) pos) ab) : AE X kc W (.BoolOp .And (a :: b :: rest) pos) (aAndV aa ab) := .of (pe_and ha hb) fun pv ι σ H δ g Q rl sl w => by
  refine ⟨pv, ι, δ, g, rl, sl, (boolR_wg (WG.bindB w)).imp fun x H1 ⟨k, ex, ι1, h1, e1, rl1, w1⟩ => ⟨k, ex, ?_⟩⟩
  cases k with
  | true => exact ⟨pv, ι1, δ, h1, rl1, sl.ext e1, w1⟩
  | false => exact w1 ι1 _ H1 .refl rl1 rfl
theorem a_or (ha : AE X kc W a aa) (hb : AE X kc W (.BoolOp .Or (b :: rest) pos) ab) : AE X kc W (.BoolOp .Or (a :: b :: rest) pos) (aOrV aa ab) := .of (pe_or ha hb) fun pv ι σ H δ g Q rl sl w => by
  refine ⟨pv, ι, δ, g, rl, sl, (boolR_wg (WG.bindB w)).imp fun x H1 ⟨k, ex, ι1, h1, e1, rl1, w1⟩ => ⟨k, ex, ?_⟩⟩
  cases k with
  | false => exact ⟨pv, ι1, δ, h1, rl1, sl.ext e1, w1⟩
  | true => exact w1 ι1 _ H1 .refl rl1 rfl
theorem a_not (ha : AE X kc W a aa) : AE X kc W (.UnaryOp .Not a pos) (aNotV aa) := .of (pe_not ha) fun pv ι σ H δ g Q rl sl w =>
  ⟨pv, ι, δ, g, rl, sl, (boolR_wg (WG.bindB w)).imp fun x H1 ⟨k, ex, ι1, h1, e1, rl1, w1⟩ => ⟨k, ex, w1 ι1 _ H1 .refl rl1 rfl⟩⟩
def aIf (t : ATs) (a b : AEx) : AEx := fun δ h => (t δ h).bind fun k h1 => if k = true then a δ h1 else b δ h1
theorem a_if (ht : AT X kc W c ta) (ha : AE X kc W a aa) (hb : AE X kc W b ab) : AE X kc W (.IfExp c a b pos) (aIf ta aa ab) := .of (pe_ifExp ht ha hb) fun pv ι σ H δ g Q rl sl w => by
  refine ⟨pv, ι, δ, g, rl, sl, (WG.bindB w).imp fun k H1 ⟨ι1, h1, e1, rl1, w1⟩ => ?_⟩
  cases k with
  | true => exact ⟨pv, ι1, δ, h1, rl1, sl.ext e1, w1⟩
  | false => exact ⟨pv, ι1, δ, h1, rl1, sl.ext e1, w1⟩
def aNeg (a : AEx) : AEx := fun δ h => (a δ h).bind fun x h1 => match x with
  | .int i => .ok (.int (-i)) h1
  | _ => .bad
theorem a_neg (ha : AE X kc W a aa) : AE X kc W (.UnaryOp .USub a pos) (aNeg aa) := .of (pe_un un_neg ha) fun pv ι σ H δ g Q rl sl w =>
  ⟨pv, ι, δ, g, rl, sl, (WG.bind w).imp fun x H1 ⟨ι1, d1, h1, e1, rl1, rp1, w1⟩ => by
    split at w1
    · exact ⟨_, rp1, w1 ι1 _ H1 .refl rl1 rfl⟩
    · exact w1.elim⟩
/-! the truth of a value -/
def truD (h : AH) : D → Option Bool
  | .non => some false
  | .bl b => some b
  | .int i => some (i != 0)
  | .str _ => none
  | d => (seqOf h d).map fun ds => !ds.isEmpty
theorem isEmpty_rep {C : Kc} {ι : List Addr} {H : Hp} {ds : List D} {vs : List V} (r : RepL C ι H ds vs) : ds.isEmpty = vs.isEmpty := by
  have := r.length
  cases ds <;> cases vs <;> first | rfl | simp at this
theorem tru_of {C : Kc} {ι : List Addr} {H : Hp} {h : AH} {d : D} {v : V} {k : Bool} (rl : Rel C ι H h) (r : RepV C ι H d v) (e : truD h d = some k) : TruV C.K v H k := by
  have sq : ∀ {k : Bool}, (seqOf h d).map (fun ds => !ds.isEmpty) = some k → TruV C.K v H k := fun {k} e => by
    obtain ⟨ds, h1, rfl⟩ := Option.map_eq_some_iff.mp e
    obtain ⟨a, vs, rfl, hs, _, rp⟩ := seq_of rl r h1
    rw [isEmpty_rep rp]
    exact (seq_sq hs).elim (fun z => .inl ⟨vs, z, rfl⟩) fun z => .inr (.inl ⟨vs, z, rfl⟩)
  cases d with
  | non => cases e; rw [r.non]; rfl
  | bl b => cases e; rw [r.bl]; rfl
  | int b => cases e; rw [r.int]; rfl
  | str b => cases e
  | tup ds => exact sq e
  | vl ds => exact sq e
  | obj c fs ds => exact sq e
  | ref n => exact sq e
def aTru (a : AEx) : ATs := fun δ h => (a δ h).bind fun x h1 => match truD h1 x with
  | some k => .ok k h1
  | none => .bad
theorem t_tru (ha : AE X kc W a aa) (he : ∀ whole, isTrue a X.env whole = (do let v ← whole; standAt a.pos; holding [v] (truthy v))) : AT X kc W a (aTru aa) := .of (pt_truth ha he) fun pv ι σ H δ g Q rl sl w =>
  ⟨pv, ι, δ, g, rl, sl, (WG.bind w).imp fun x H1 ⟨ι1, d1, h1, e1, rl1, rp1, w1⟩ => by
    split at w1
    · rename_i k hk
      exact ⟨k, tru_of rl1 rp1 hk, w1 ι1 _ H1 .refl rl1 rfl⟩
    · exact w1.elim⟩
/-! ### items and slices -/
def dIx : D → D → AH → R D := fun x y h => match seqOf h x, y with
  | some ds, .int i => match atI ds i with
    | some d => .ok d h
    | none => .bad
  | _, _ => .bad
theorem atI_rep {C : Kc} {ι : List Addr} {H : Hp} {ds : List D} {vs : List V} {i : Int} {d : D} (r : RepL C ι H ds vs) (e : atI ds i = some d) : ∃ v, atI vs i = some v ∧ RepV C ι H d v := by
  unfold atI at e ⊢
  rw [← r.length]
  obtain ⟨j, h1, h2⟩ := Option.bind_eq_some_iff.mp e
  rw [h1]
  exact r.get h2
theorem ao_ix {C : Kc} : AOp C (rIx C.K) dIx := fun ι H h d1 d2 v w σ W Q rl r1 r2 wq => by
  unfold dIx at wq
  split at wq
  · rename_i ds i hs
    split at wq
    · rename_i d hd
      obtain ⟨a, vs, rfl, hq, _, rp⟩ := seq_of rl r1 hs
      obtain ⟨u, hu, ru⟩ := atI_rep rp hd
      have q := wq ι _ H .refl rl ru
      exact (seq_sq (K := C.K) hq).elim (fun z => .inl ⟨a, vs, i, u, rfl, r2, z, hu, q⟩) fun z => .inr (.inl ⟨a, vs, i, u, rfl, r2, z, hu, q⟩)
    · exact wq.elim
  · exact wq.elim
theorem a_ix (ha : AE X kc W a aa) (hb : AE X kc W b ab) (hs : PlainIx b) : AE X kc W (.Subscript a b pos) (aOp dIx aa ab) := .of (pe_ix ix_seq ha hb hs) fun pv ι σ H δ g Q rl sl w => tOp_of (fun _ => ao_ix) rl sl w
abbrev AOx := AEnv → AH → R (Option Int)
def RepO : Rp (Option Int) (Option Int) := fun _ _ a b => a = b
def toA (K : PySem.W.Frag) (kc : Str → Addr) (W : WX) (ao : AOx) : TO := fun σ H Q => ∃ pv, let C : Kc := ⟨K, kc, pv⟩; ∃ ι δ h, Rel C ι H h ∧ Slo C ι H σ δ ∧ WG RepO C ι H σ W Q (ao δ h)
abbrev AO (X : Cx) (kc : Str → Addr) (W : WX) (e : Option Expr) (ao : AOx) : Prop := PO X e (toA X.K kc W ao)
def aNo : AOx := fun _ h => .ok none h
def aPart (a : AEx) : AOx := fun δ h => (a δ h).bind fun x h1 => match x with
  | .int i => .ok (some i) h1
  | _ => .bad
theorem o_no : AO X kc W none aNo := ⟨fun pins s σ H Q I ⟨pv, ι, δ, g, rl, sl, w⟩ => po_none.run pins s σ H Q I (w ι _ H .refl rl rfl)⟩
theorem o_part (ha : AE X kc W a aa) : AO X kc W (some a) (aPart aa) := ⟨fun pins s σ H Q I ⟨pv, ι, δ, g, rl, sl, w⟩ => (po_some ha).run pins s σ H Q I ⟨pv, ι, δ, g, rl, sl, (WG.bind w).imp fun x H1 ⟨ι1, d1, h1, e1, rl1, rp1, w1⟩ => by
    split at w1
    · exact ⟨_, rp1, w1 ι1 _ H1 .refl rl1 rfl⟩
    · exact w1.elim⟩⟩
def cutD (xs : List D) (lo hi : Option Int) : List D := (xs.drop (HT.sIx xs.length 0 lo)).take (HT.sIx xs.length xs.length hi - HT.sIx xs.length 0 lo)
theorem cut_rep {C : Kc} {ι : List Addr} {H : Hp} {ds : List D} {vs : List V} (r : RepL C ι H ds vs) (lo hi : Option Int) : RepL C ι H (cutD ds lo hi) (cutV vs lo hi) := by
  unfold cutD cutV
  rw [← r.length]
  exact (r.drop _).take _
theorem cutV_len (vs : List V) (lo hi : Option Int) : (cutV vs lo hi).length ≤ vs.length := by
  unfold cutV
  rw [List.length_take, List.length_drop]
  omega
/-- x[lo:hi]: a tuple of a tuple, a list's items as a list by value -/
def aSl (a : AEx) (lo hi : AOx) : AEx := fun δ h => (a δ h).bind fun x h1 => (lo δ h1).bind fun l h2 => (hi δ h2).bind fun u h3 => match x with
  | .tup ds => .ok (.tup (cutD ds l u)) h3
  | d => match seqOf h3 d with
    | some ds => .ok (.vl (cutD ds l u)) h3
    | none => .bad
theorem whole_cut {ds : List D} {l u : Option Int} (h : HT.sIx ds.length 0 l = 0 ∧ HT.sIx ds.length ds.length u = ds.length) : cutD ds l u = ds := by
  unfold cutD
  rw [h.1, h.2, List.drop_zero, Nat.sub_zero, List.take_length]
theorem a_sl {lo hi : Option Expr} {al ah : AOx} {p2 : Pos} (ha : AE X kc W a aa) (hl : AO X kc W lo al) (hh : AO X kc W hi ah) : AE X kc W (.Subscript a (.Slice lo hi none p2) pos) (aSl aa al ah) :=
  .of (pe_slice (sl_tupA.or sl_list) ha hl hh) fun pv ι σ H δ g Q rl sl w => by
  refine ⟨pv, ι, δ, g, rl, sl, (WG.bind w).imp fun x H1 ⟨ι1, d1, h1, e1, rl1, rp1, w1⟩ => ?_⟩
  refine ⟨pv, ι1, δ, h1, rl1, sl.ext e1, (WG.bind w1).imp fun l H2 ⟨ι2, l', h2, e2, rl2, rp2, w2⟩ => ?_⟩
  have rp2' : l' = l := rp2
  subst rp2'
  refine ⟨pv, ι2, δ, h2, rl2, sl.ext (e1.trans e2), (WG.bind w2).imp fun u H3 ⟨ι3, u', h3, e3, rl3, rp3, w3⟩ => ?_⟩
  have rp3' : u' = u := rp3
  subst rp3'
  have rp1' := rp1.ext (e2.trans e3)
  split at w3
  · rename_i ds
    obtain ⟨p, vs, rfl, hp, np, lp, rp⟩ := rp1'.tup
    have el := rp.length
    refine .inl ⟨p, vs, rfl, .inl (.inl hp), fun hw => ?_, fun _ q nq => ?_⟩
    · rw [← el] at hw
      refine w3 ι3 _ _ .refl rl3 ?_
      rw [whole_cut hw]
      exact ⟨p, vs, rfl, hp, np, lp, rp⟩
    · exact w3 ι3 _ _ (ext_new rl3 nq _) (rl3.new nq _) (new_tup rl3 nq (Nat.le_trans (cutV_len ..) lp) (cut_rep rp _ _))
  · rename_i d hd
    split at w3
    · rename_i ds hs
      obtain ⟨p, vs, rfl, hq, lp, rp⟩ := seq_of rl3 rp1' hs
      rcases hq with hq | hq
      · exact .inr ⟨p, vs, rfl, .inl hq, fun q nq => w3 ι3 _ _ (ext_new rl3 nq _) (rl3.new nq _) (new_vl rl3 nq (Nat.le_trans (cutV_len ..) lp) (cut_rep rp _ _))⟩
      · exfalso
        cases d1 with
        | tup ds => exact hd _ rfl
        | vl ds =>
          obtain ⟨q, ws, e, h4, _⟩ := rp1'.vl
          cases e
          rw [hq] at h4
          cases h4
        | ref n =>
          obtain ⟨c, hc, ec⟩ := Option.bind_eq_some_iff.mp (show h3[n]?.bind Cell.seq? = some ds from hs)
          cases c <;> cases ec
          · obtain ⟨q, e, _, ws, h4, _⟩ := rl3.at rp1' hc
            cases e
            rw [hq] at h4
            cases h4
          · obtain ⟨q, e, _, ws, o, h4, _⟩ := rl3.at rp1' hc
            cases e
            rw [hq] at h4
            cases h4
        | _ => cases hs
    · exact w3.elim
end
end Mr
namespace Mr
open PySem PySem.Spec PyProof.Rows L2 Aq
/-! ### built-in functions -/
abbrev DF := List D → AH → R D
def ABi (C : Kc) (r : List V → Hp → VK → Prop) (f : DF) : Prop := ∀ ι H h ds vs σ (W : WX) Q, Rel C ι H h → RepL C ι H ds vs → WG (RepV C) C ι H σ W Q (f ds h) → r vs H Q
def aCb (f : DF) (t : AAs) : AEx := fun δ h => (t δ h).bind fun ds h1 => f ds h1
theorem tCB_of {K : PySem.W.Frag} {kc : Str → Addr} {pv : List Addr} {W : WX} {n : Nat} {r : List V → Hp → VK → Prop} {f : DF} {t : AAs} (hf : ∀ pv, ABi ⟨K, kc, pv⟩ r f) {ι σ H δ g Q} (rl : Rel ⟨K, kc, pv⟩ ι H g) (sl : Slo ⟨K, kc, pv⟩ ι H σ δ) (w : WG (RepV ⟨K, kc, pv⟩) ⟨K, kc, pv⟩ ι H σ W Q (aCb f t δ g)) : tCB r (taA K kc W n t) σ H Q :=
  ⟨pv, ι, δ, g, rl, sl, (WG.bind w).imp fun vs H1 ⟨ι1, ds, h1, e1, rl1, rp1, w1⟩ => hf pv ι1 H1 h1 ds vs σ W Q rl1 rp1.1 w1⟩
section
variable {X : Cx} {kc : Str → Addr} {W : WX} {e : Expr} {es : List Expr} {t : AAs} {x : Str} {id T : String} {r : List V → Hp → VK → Prop} {f : DF} {p pos : Pos}
theorem a_cb (hc : CallR X (.builtin id) r) (hf : ∀ pv, ABi (Kp X kc pv) r f) (hg : Gl X x) (hm : X.mg x = none) (hv : bootBuiltins x = some (.builtin id)) (ha : AA X kc W (e :: es) t) (hn : x ≠ "__name__" := by decide) (hdb : (x == ("__debug__" : Str)) = false := by decide)
    (he : starEach (e :: es) X.env = (false, eval e X.env) :: starEach es X.env := by rfl) (hpl : (backTo pos (starEach es X.env)).any (·.1) = false := by rfl) : AE X kc W (.Call (.Name x p) (e :: es) [] pos) (aCb f t) :=
  .of (pe_callB hc hg hm hv ha hn hdb he hpl) fun pv ι σ H δ g Q rl sl w => tCB_of hf rl sl w
theorem a_cty (hc : CallR X (.type T) r) (hf : ∀ pv, ABi (Kp X kc pv) r f) (hg : Gl X x) (hm : X.mg x = none) (hv : bootBuiltins x = some (.type T)) (ha : AA X kc W (e :: es) t) (hn : x ≠ "__name__" := by decide) (hdb : (x == ("__debug__" : Str)) = false := by decide)
    (he : starEach (e :: es) X.env = (false, eval e X.env) :: starEach es X.env := by rfl) (hpl : (backTo pos (starEach es X.env)).any (·.1) = false := by rfl) : AE X kc W (.Call (.Name x p) (e :: es) [] pos) (aCb f t) :=
  .of (pe_callTy hc hg hm hv ha hn hdb he hpl) fun pv ι σ H δ g Q rl sl w => tCB_of hf rl sl w
end
section
variable {C : Kc}
theorem repL1 {ι : List Addr} {H : Hp} {d : D} {vs : List V} (r : RepL C ι H [d] vs) : ∃ v, vs = [v] ∧ RepV C ι H d v := by
  obtain ⟨v, ws, rfl, h2, h3⟩ := (show ∃ v ws, vs = v :: ws ∧ RepV C ι H d v ∧ RepL C ι H [] ws from r)
  exact ⟨v, by rw [show ws = [] from h3], h2⟩
theorem repL2 {ι : List Addr} {H : Hp} {d e : D} {vs : List V} (r : RepL C ι H [d, e] vs) : ∃ v u, vs = [v, u] ∧ RepV C ι H d v ∧ RepV C ι H e u := by
  obtain ⟨v, ws, rfl, h2, h3⟩ := (show ∃ v ws, vs = v :: ws ∧ RepV C ι H d v ∧ RepL C ι H [e] ws from r)
  obtain ⟨u, rfl, h4⟩ := repL1 h3
  exact ⟨v, u, rfl, h2, h4⟩
def dLen : DF := fun ds h => match ds with
  | [x] => match seqOf h x with
    | some xs => .ok (.int xs.length) h
    | none => .bad
  | _ => .bad
theorem ab_len : ABi C (fun xs H Q => ∃ p ys, xs = [.ref p] ∧ (SqL C.K H p ys ∨ SqT C.K H p ys) ∧ Q (.int ys.length) H) dLen := fun ι H h ds vs σ W Q rl rp w => by
  unfold dLen at w
  split at w
  · split at w
    · rename_i xs hx
      obtain ⟨v, rfl, r⟩ := repL1 rp
      obtain ⟨a, us, rfl, hs, _, ru⟩ := seq_of rl r hx
      have q := w ι _ H .refl rl rfl
      rw [ru.length] at q
      exact ⟨a, us, rfl, seq_sq hs, q⟩
    · exact w.elim
  · exact w.elim
def dMax2 : DF := fun ds h => match ds with
  | [.int i, .int j] => .ok (.int (if j > i then j else i)) h
  | _ => .bad
def dMin2 : DF := fun ds h => match ds with
  | [.int i, .int j] => .ok (.int (if j < i then j else i)) h
  | _ => .bad
theorem ab_max2 : ABi C (fun xs H Q => ∃ i j, xs = [.int i, .int j] ∧ Q (.int (if j > i then j else i)) H) dMax2 := fun ι H h ds vs σ W Q rl rp w => by
  unfold dMax2 at w
  split at w
  · obtain ⟨v, u, rfl, r1, r2⟩ := repL2 rp
    rw [r1.int, r2.int]
    exact ⟨_, _, rfl, w ι _ H .refl rl rfl⟩
  · exact w.elim
theorem ab_min2 : ABi C (fun xs H Q => ∃ i j, xs = [.int i, .int j] ∧ Q (.int (if j < i then j else i)) H) dMin2 := fun ι H h ds vs σ W Q rl rp w => by
  unfold dMin2 at w
  split at w
  · obtain ⟨v, u, rfl, r1, r2⟩ := repL2 rp
    rw [r1.int, r2.int]
    exact ⟨_, _, rfl, w ι _ H .refl rl rfl⟩
  · exact w.elim
def dInt : DF := fun ds h => match ds with
  | [.int i] => .ok (.int i) h
  | [.bl k] => .ok (.int (if k then 1 else 0)) h
  | _ => .bad
theorem ab_int : ABi C (fun xs H Q => (∃ i, xs = [.int i] ∧ Q (.int i) H) ∨ ∃ k, xs = [.bl k] ∧ Q (.int (if k then 1 else 0)) H) dInt := fun ι H h ds vs σ W Q rl rp w => by
  unfold dInt at w
  split at w
  · obtain ⟨v, rfl, r1⟩ := repL1 rp
    rw [r1.int]
    exact .inl ⟨_, rfl, w ι _ H .refl rl rfl⟩
  · obtain ⟨v, rfl, r1⟩ := repL1 rp
    rw [r1.bl]
    exact .inr ⟨_, rfl, w ι _ H .refl rl rfl⟩
  · exact w.elim
/-! lists of numbers, of truth values -/
def intsOf : List D → Option (List Int)
  | [] => some []
  | .int i :: ds => (intsOf ds).map (i :: ·)
  | _ :: _ => none
def blsOf : List D → Option (List Bool)
  | [] => some []
  | .bl i :: ds => (blsOf ds).map (i :: ·)
  | _ :: _ => none
theorem intsOf_map : ∀ ns : List Int, intsOf (ns.map D.int) = some ns
  | [] => rfl
  | n :: ns => by
    show (intsOf (ns.map D.int)).map (n :: ·) = _
    rw [intsOf_map ns]
    rfl
theorem blsOf_map : ∀ ns : List Bool, blsOf (ns.map D.bl) = some ns
  | [] => rfl
  | n :: ns => by
    show (blsOf (ns.map D.bl)).map (n :: ·) = _
    rw [blsOf_map ns]
    rfl
theorem ints_of {ι : List Addr} {H : Hp} : ∀ {ds : List D} {vs : List V} {ns : List Int}, RepL C ι H ds vs → intsOf ds = some ns → vs = ns.map V.int ∧ ds = ns.map D.int
  | [], vs, ns, r, e => by
    cases (show some [] = some ns from e)
    exact ⟨r, rfl⟩
  | .int i :: ds, vs, ns, r, e => by
    obtain ⟨v, ws, rfl, h2, h3⟩ := (show ∃ v ws, vs = v :: ws ∧ RepV C ι H (.int i) v ∧ RepL C ι H ds ws from r)
    obtain ⟨ms, hm, rfl⟩ := Option.map_eq_some_iff.mp (show (intsOf ds).map (i :: ·) = some ns from e)
    obtain ⟨e1, e2⟩ := ints_of h3 hm
    exact ⟨by rw [h2.int, e1]; rfl, by rw [e2]; rfl⟩
  | .non :: _, _, _, _, e => by cases e
  | .bl _ :: _, _, _, _, e => by cases e
  | .str _ :: _, _, _, _, e => by cases e
  | .tup _ :: _, _, _, _, e => by cases e
  | .vl _ :: _, _, _, _, e => by cases e
  | .obj .. :: _, _, _, _, e => by cases e
  | .ref _ :: _, _, _, _, e => by cases e
theorem bls_of {ι : List Addr} {H : Hp} : ∀ {ds : List D} {vs : List V} {ns : List Bool}, RepL C ι H ds vs → blsOf ds = some ns → vs = ns.map V.bl
  | [], vs, ns, r, e => by
    cases (show some [] = some ns from e)
    exact r
  | .bl i :: ds, vs, ns, r, e => by
    obtain ⟨v, ws, rfl, h2, h3⟩ := (show ∃ v ws, vs = v :: ws ∧ RepV C ι H (.bl i) v ∧ RepL C ι H ds ws from r)
    obtain ⟨ms, hm, rfl⟩ := Option.map_eq_some_iff.mp (show (blsOf ds).map (i :: ·) = some ns from e)
    rw [h2.bl, bls_of h3 hm]
    rfl
  | .non :: _, _, _, _, e => by cases e
  | .int _ :: _, _, _, _, e => by cases e
  | .str _ :: _, _, _, _, e => by cases e
  | .tup _ :: _, _, _, _, e => by cases e
  | .vl _ :: _, _, _, _, e => by cases e
  | .obj .. :: _, _, _, _, e => by cases e
  | .ref _ :: _, _, _, _, e => by cases e
/-- the numbers of a list -/
def lintsOf (h : AH) (x : D) : Option (List Int) := (lstOf h x).bind intsOf
def lblsOf (h : AH) (x : D) : Option (List Bool) := (lstOf h x).bind blsOf
theorem lints_of {ι : List Addr} {H : Hp} {h : AH} {d : D} {v : V} {ns : List Int} (rl : Rel C ι H h) (r : RepV C ι H d v) (e : lintsOf h d = some ns) : ∃ a, v = .ref a ∧ H a = some (.lst (ns.map V.int)) ∧ ns.length ≤ sizeLine := by
  obtain ⟨ds, h1, h2⟩ := Option.bind_eq_some_iff.mp e
  obtain ⟨a, vs, rfl, h3, l, h4⟩ := lst_of rl r h1
  have e1 := (ints_of h4 h2).1
  rw [e1] at h3 l
  exact ⟨a, rfl, h3, by rwa [List.length_map] at l⟩
theorem lbls_of {ι : List Addr} {H : Hp} {h : AH} {d : D} {v : V} {ns : List Bool} (rl : Rel C ι H h) (r : RepV C ι H d v) (e : lblsOf h d = some ns) : ∃ a, v = .ref a ∧ H a = some (.lst (ns.map V.bl)) := by
  obtain ⟨ds, h1, h2⟩ := Option.bind_eq_some_iff.mp e
  obtain ⟨a, vs, rfl, h3, _, h4⟩ := lst_of rl r h1
  have e1 := bls_of h4 h2
  rw [e1] at h3
  exact ⟨a, rfl, h3⟩
def on1 (g : AH → D → R D) : DF := fun ds h => match ds with
  | [x] => g h x
  | _ => .bad
def dSum : DF := on1 fun h x => match lintsOf h x with
  | some ns => .ok (.int ns.sum) h
  | none => .bad
def maxI : List Int → Int
  | [] => 0
  | x :: xs => xs.foldl (fun a b => if b > a then b else a) x
def minI : List Int → Int
  | [] => 0
  | x :: xs => xs.foldl (fun a b => if b < a then b else a) x
theorem foldMax_spec : ∀ (xs : List Int) (x : Int), (xs.foldl (fun a b => if b > a then b else a) x = x ∨ xs.foldl (fun a b => if b > a then b else a) x ∈ xs) ∧ x ≤ xs.foldl (fun a b => if b > a then b else a) x ∧ ∀ y ∈ xs, y ≤ xs.foldl (fun a b => if b > a then b else a) x
  | [], x => ⟨.inl rfl, Int.le_refl _, fun _ h => by simp at h⟩
  | z :: xs, x => by
    rw [List.foldl_cons]
    obtain ⟨h1, h2, h3⟩ := foldMax_spec xs (if z > x then z else x)
    by_cases hz : z > x
    · rw [if_pos hz] at h1 h2 h3 ⊢
      refine ⟨.inr ?_, by omega, fun y hy => ?_⟩
      · rcases h1 with h1 | h1
        · rw [h1]; exact List.mem_cons_self
        · exact List.mem_cons_of_mem _ h1
      · rcases List.mem_cons.mp hy with rfl | hy
        · exact h2
        · exact h3 y hy
    · rw [if_neg hz] at h1 h2 h3 ⊢
      refine ⟨?_, h2, fun y hy => ?_⟩
      · rcases h1 with h1 | h1
        · exact .inl h1
        · exact .inr (List.mem_cons_of_mem _ h1)
      · rcases List.mem_cons.mp hy with rfl | hy
        · omega
        · exact h3 y hy
theorem maxI_mem {ns : List Int} (h : ns ≠ []) : maxI ns ∈ ns := by
  cases ns with
  | nil => exact absurd rfl h
  | cons x xs =>
    rcases (foldMax_spec xs x).1 with z | z
    · show xs.foldl _ x ∈ _
      rw [z]
      exact List.mem_cons_self
    · exact List.mem_cons_of_mem _ z
theorem le_maxI {ns : List Int} {y : Int} (h : y ∈ ns) : y ≤ maxI ns := by
  cases ns with
  | nil => simp at h
  | cons x xs =>
    rcases List.mem_cons.mp h with rfl | h
    · exact (foldMax_spec xs y).2.1
    · exact (foldMax_spec xs x).2.2 y h
theorem foldMin_spec : ∀ (xs : List Int) (x : Int), (xs.foldl (fun a b => if b < a then b else a) x = x ∨ xs.foldl (fun a b => if b < a then b else a) x ∈ xs) ∧ xs.foldl (fun a b => if b < a then b else a) x ≤ x ∧ ∀ y ∈ xs, xs.foldl (fun a b => if b < a then b else a) x ≤ y
  | [], x => ⟨.inl rfl, Int.le_refl _, fun _ h => by simp at h⟩
  | z :: xs, x => by
    rw [List.foldl_cons]
    obtain ⟨h1, h2, h3⟩ := foldMin_spec xs (if z < x then z else x)
    by_cases hz : z < x
    · rw [if_pos hz] at h1 h2 h3 ⊢
      refine ⟨.inr ?_, by omega, fun y hy => ?_⟩
      · rcases h1 with h1 | h1
        · rw [h1]; exact List.mem_cons_self
        · exact List.mem_cons_of_mem _ h1
      · rcases List.mem_cons.mp hy with rfl | hy
        · exact h2
        · exact h3 y hy
    · rw [if_neg hz] at h1 h2 h3 ⊢
      refine ⟨?_, h2, fun y hy => ?_⟩
      · rcases h1 with h1 | h1
        · exact .inl h1
        · exact .inr (List.mem_cons_of_mem _ h1)
      · rcases List.mem_cons.mp hy with rfl | hy
        · omega
        · exact h3 y hy
theorem minI_mem {ns : List Int} (h : ns ≠ []) : minI ns ∈ ns := by
  cases ns with
  | nil => exact absurd rfl h
  | cons x xs =>
    rcases (foldMin_spec xs x).1 with z | z
    · show xs.foldl _ x ∈ _
      rw [z]
      exact List.mem_cons_self
    · exact List.mem_cons_of_mem _ z
theorem minI_le {ns : List Int} {y : Int} (h : y ∈ ns) : minI ns ≤ y := by
  cases ns with
  | nil => simp at h
  | cons x xs =>
    rcases List.mem_cons.mp h with rfl | h
    · exact (foldMin_spec xs y).2.1
    · exact (foldMin_spec xs x).2.2 y h
def dMax : DF := on1 fun h x => match lintsOf h x with
  | some ns => if ns.isEmpty then .bad else .ok (.int (maxI ns)) h
  | none => .bad
def dMin : DF := on1 fun h x => match lintsOf h x with
  | some ns => if ns.isEmpty then .bad else .ok (.int (minI ns)) h
  | none => .bad
def dAll : DF := on1 fun h x => match lblsOf h x with
  | some bs => .ok (.bl (bs.all id)) h
  | none => .bad
def dAny : DF := on1 fun h x => match lblsOf h x with
  | some bs => .ok (.bl (bs.any id)) h
  | none => .bad
theorem on1_of {g : AH → D → R D} {ι : List Addr} {H : Hp} {h : AH} {ds : List D} {vs : List V} {σ : L2.St} {W : WX} {Q : VK} (rp : RepL C ι H ds vs) (w : WG (RepV C) C ι H σ W Q (on1 g ds h)) : ∃ x v, vs = [v] ∧ RepV C ι H x v ∧ WG (RepV C) C ι H σ W Q (g h x) := by
  unfold on1 at w
  split at w
  · rename_i x
    obtain ⟨v, rfl, r⟩ := repL1 rp
    exact ⟨x, v, rfl, r, w⟩
  · exact w.elim
theorem ab_sum : ABi C (rSum C.K) dSum := fun ι H h ds vs σ W Q rl rp w => by
  obtain ⟨x, v, rfl, r, w⟩ := on1_of rp w
  split at w
  · rename_i ns hn
    obtain ⟨a, rfl, ha, _⟩ := lints_of rl r hn
    exact ⟨a, ns, rfl, .inl (.inl ha), w ι _ H .refl rl rfl⟩
  · exact w.elim
theorem nonE {ns : List Int} (h : ¬ ns.isEmpty = true) : ns ≠ [] := fun e => h (by rw [e]; rfl)
theorem ab_max : ABi C (rMax C.K) dMax := fun ι H h ds vs σ W Q rl rp w => by
  obtain ⟨x, v, rfl, r, w⟩ := on1_of rp w
  split at w
  · rename_i ns hn
    split at w
    · exact w.elim
    · rename_i hne
      obtain ⟨a, rfl, ha, _⟩ := lints_of rl r hn
      refine ⟨a, ns, rfl, .inl (.inl ha), List.length_pos_iff.mpr (nonE hne), fun m hm hall => ?_⟩
      have e : m = maxI ns := by
        have h1 := hall _ (maxI_mem (nonE hne))
        have h2 := le_maxI hm
        omega
      rw [e]
      exact w ι _ H .refl rl rfl
  · exact w.elim
theorem ab_min : ABi C (rMin C.K) dMin := fun ι H h ds vs σ W Q rl rp w => by
  obtain ⟨x, v, rfl, r, w⟩ := on1_of rp w
  split at w
  · rename_i ns hn
    split at w
    · exact w.elim
    · rename_i hne
      obtain ⟨a, rfl, ha, _⟩ := lints_of rl r hn
      refine ⟨a, ns, rfl, .inl (.inl ha), List.length_pos_iff.mpr (nonE hne), fun m hm hall => ?_⟩
      have e : m = minI ns := by
        have h1 := hall _ (minI_mem (nonE hne))
        have h2 := minI_le hm
        omega
      rw [e]
      exact w ι _ H .refl rl rfl
  · exact w.elim
theorem ab_all : ABi C (rAll C.K) dAll := fun ι H h ds vs σ W Q rl rp w => by
  obtain ⟨x, v, rfl, r, w⟩ := on1_of rp w
  split at w
  · rename_i ns hn
    obtain ⟨a, rfl, ha⟩ := lbls_of rl r hn
    exact ⟨a, ns, rfl, .inl (.inl ha), w ι _ H .refl rl rfl⟩
  · exact w.elim
theorem ab_any : ABi C (rAny C.K) dAny := fun ι H h ds vs σ W Q rl rp w => by
  obtain ⟨x, v, rfl, r, w⟩ := on1_of rp w
  split at w
  · rename_i ns hn
    obtain ⟨a, rfl, ha⟩ := lbls_of rl r hn
    exact ⟨a, ns, rfl, .inl (.inl ha), w ι _ H .refl rl rfl⟩
  · exact w.elim
/-! tuple(x), list(x) -/
def dTuple : DF := on1 fun h x => match seqOf h x with
  | some ds => .ok (.tup ds) h
  | none => .bad
def dList : DF := on1 fun h x => match seqOf h x with
  | some ds => .ok (.vl ds) h
  | none => .bad
def dListR : DF := on1 fun h x => match seqOf h x with
  | some ds => .ok (.ref h.length) (h ++ [.lst ds])
  | none => .bad
theorem tup_is {ι : List Addr} {H : Hp} {h : AH} {d : D} {v : V} {ds : List D} {a : Addr} {vs : List V} (rl : Rel C ι H h) (r : RepV C ι H d (.ref a)) (e : seqOf h d = some ds) (hq : H a = some (.tup vs)) : d = .tup ds := by
  cases d with
  | tup xs =>
    cases (show some xs = some ds from e)
    rfl
  | vl xs =>
    obtain ⟨q, ws, e, h4, _⟩ := r.vl
    cases e
    rw [hq] at h4
    cases h4
  | ref n =>
    obtain ⟨c, hc, ec⟩ := Option.bind_eq_some_iff.mp (show h[n]?.bind Cell.seq? = some ds from e)
    cases c <;> cases ec
    · obtain ⟨q, e, _, ws, h4, _⟩ := rl.at r hc
      cases e
      rw [hq] at h4
      cases h4
    · obtain ⟨q, e, _, ws, o, h4, _⟩ := rl.at r hc
      cases e
      rw [hq] at h4
      cases h4
  | _ => cases e
def rTO' (K : PySem.W.Frag) : List V → Hp → VK → Prop := fun xs H Q => ∃ p ys, xs = [.ref p] ∧ ((SqL K H p ys ∧ ∀ l, H l = none → Q (.ref l) (upd H l (.tup ys))) ∨ (SqT K H p ys ∧ Q (.ref p) H))
theorem ab_tuple : ABi C (rTO' C.K) dTuple := fun ι H h ds vs σ W Q rl rp w => by
  obtain ⟨x, v, rfl, r, w⟩ := on1_of rp w
  split at w
  · rename_i xs hx
    obtain ⟨a, us, rfl, hs, l, ru⟩ := seq_of rl r hx
    refine ⟨a, us, rfl, ?_⟩
    rcases hs with hs | hs
    · exact .inl ⟨.inl hs, fun q nq => w ι _ _ (ext_new rl nq _) (rl.new nq _) (new_tup rl nq l ru)⟩
    · refine .inr ⟨.inl (.inl hs), w ι _ _ .refl rl ?_⟩
      rw [← tup_is (v := .ref a) rl r hx hs]
      exact r
  · exact w.elim
def rLO (K : PySem.W.Frag) : List V → Hp → VK → Prop := fun xs H Q => ∃ p ys, xs = [.ref p] ∧ (SqL K H p ys ∨ SqT K H p ys) ∧ ∀ l, H l = none → Q (.ref l) (upd H l (.lst ys))
theorem ab_list : ABi C (rLO C.K) dList := fun ι H h ds vs σ W Q rl rp w => by
  obtain ⟨x, v, rfl, r, w⟩ := on1_of rp w
  split at w
  · rename_i xs hx
    obtain ⟨a, us, rfl, hs, l, ru⟩ := seq_of rl r hx
    exact ⟨a, us, rfl, seq_sq hs, fun q nq => w ι _ _ (ext_new rl nq _) (rl.new nq _) (new_vl rl nq l ru)⟩
  · exact w.elim
theorem ab_listR : ABi C (rLO C.K) dListR := fun ι H h ds vs σ W Q rl rp w => by
  obtain ⟨x, v, rfl, r, w⟩ := on1_of rp w
  split at w
  · rename_i xs hx
    obtain ⟨a, us, rfl, hs, l, ru⟩ := seq_of rl r hx
    refine ⟨a, us, rfl, seq_sq hs, fun q nq => ?_⟩
    have en := ext_push rl nq (.lst us)
    exact w (ι ++ [q]) _ _ en (rl.push nq ⟨us, upd_same, l, ru.ext en⟩) ⟨q, push_at rl q, rfl⟩
  · exact w.elim
/-! sorted -/
def insI (x : Int) : List Int → List Int
  | [] => [x]
  | y :: ys => if x ≤ y then x :: y :: ys else y :: insI x ys
def sortI : List Int → List Int
  | [] => []
  | x :: xs => insI x (sortI xs)
theorem insI_perm (x : Int) : ∀ ys, (insI x ys).Perm (x :: ys)
  | [] => .refl _
  | y :: ys => by
    unfold insI
    split
    · exact .refl _
    · exact ((insI_perm x ys).cons y).trans (.swap x y ys)
theorem sortI_perm : ∀ xs, (sortI xs).Perm xs
  | [] => .refl _
  | x :: xs => (insI_perm x _).trans ((sortI_perm xs).cons x)
theorem insI_sorted (x : Int) : ∀ ys : List Int, ys.Pairwise (· ≤ ·) → (insI x ys).Pairwise (· ≤ ·)
  | [], _ => List.pairwise_singleton _ _
  | y :: ys, h => by
    unfold insI
    rw [List.pairwise_cons] at h
    split
    · rename_i hx
      refine List.pairwise_cons.mpr ⟨fun z hz => ?_, List.pairwise_cons.mpr h⟩
      rcases List.mem_cons.mp hz with rfl | hz
      · exact hx
      · have := h.1 z hz
        omega
    · rename_i hx
      refine List.pairwise_cons.mpr ⟨fun z hz => ?_, insI_sorted x ys h.2⟩
      rcases List.mem_cons.mp ((insI_perm x ys).mem_iff.mp hz) with rfl | hz
      · omega
      · exact h.1 z hz
theorem sortI_sorted : ∀ xs : List Int, (sortI xs).Pairwise (· ≤ ·)
  | [] => List.Pairwise.nil
  | x :: xs => insI_sorted x _ (sortI_sorted xs)
theorem sorted_uniq : ∀ {xs ys : List Int}, xs.Perm ys → xs.Pairwise (· ≤ ·) → ys.Pairwise (· ≤ ·) → xs = ys
  | [], ys, p, _, _ => (List.nil_perm.mp p).symm
  | x :: xs, [], p, _, _ => absurd (List.perm_nil.mp p) (by simp)
  | x :: xs, y :: ys, p, h1, h2 => by
    rw [List.pairwise_cons] at h1 h2
    have e : x = y := by
      have m1 : x ∈ y :: ys := p.mem_iff.mp List.mem_cons_self
      have m2 : y ∈ x :: xs := p.mem_iff.mpr List.mem_cons_self
      rcases List.mem_cons.mp m1 with z | z
      · exact z
      · rcases List.mem_cons.mp m2 with w | w
        · exact w.symm
        · have a := h1.1 y w
          have b := h2.1 x z
          omega
    subst e
    rw [sorted_uniq ((List.perm_cons x).mp p) h1.2 h2.2]
def dSortedR (rev : Bool) : DF := on1 fun h x => match lintsOf h x with
  | some ns => .ok (.vl ((if rev then (sortI ns).reverse else sortI ns).map D.int)) h
  | none => .bad
theorem ab_sorted : ABi C (rSortedI C.K) (dSortedR false) := fun ι H h ds vs σ W Q rl rp w => by
  obtain ⟨x, v, rfl, r, w⟩ := on1_of rp w
  split at w
  · rename_i ns hn
    obtain ⟨a, rfl, ha, l⟩ := lints_of rl r hn
    refine ⟨a, ns, rfl, .inl (.inl ha), fun ns' p hp hs np => ?_⟩
    rw [sorted_uniq (hp.trans (sortI_perm ns).symm) hs (sortI_sorted ns)]
    exact w ι _ _ (ext_new rl np _) (rl.new np _) (new_vl rl np (by rw [List.length_map, (sortI_perm ns).length_eq]; exact l) (RepL.ints _))
  · exact w.elim
end
end Mr
namespace Mr
open PySem PySem.Spec PyProof.Rows L2 Aq
/-- a private thing more -/
abbrev Kc.more (C : Kc) (p : Addr) : Kc := ⟨C.K, C.kc, p :: C.pv⟩
mutual
theorem RepV.more {C : Kc} {ι : List Addr} {H : Hp} {p : Addr} (np : H p = none) : ∀ {d : D} {v : V}, RepV C ι H d v → RepV (C.more p) ι H d v
  | .non, _, h => h
  | .bl _, _, h => h
  | .int _, _, h => h
  | .str _, _, h => h
  | .tup ds, v, h => by
    obtain ⟨a, vs, h1, h2, h2', h3, h4⟩ := h.tup
    exact ⟨a, vs, h1, h2, ⟨h2'.1, fun m => (List.mem_cons.mp m).elim (fun z => by rw [z, np] at h2; cases h2) h2'.2⟩, h3, RepL.more np h4⟩
  | .vl ds, v, h => by
    obtain ⟨a, vs, h1, h2, h2', h3, h4⟩ := h.vl
    exact ⟨a, vs, h1, h2, ⟨h2'.1, fun m => (List.mem_cons.mp m).elim (fun z => by rw [z, np] at h2; cases h2) h2'.2⟩, h3, RepL.more np h4⟩
  | .obj c fs ds, v, h => by
    obtain ⟨a, dx, vs, h1, h2, h3, h4, h5, h6⟩ := h.obj
    exact ⟨a, dx, vs, h1, h2, ⟨h3.1, fun m => (List.mem_cons.mp m).elim (fun z => by rw [z, np] at h2; cases h2) h3.2⟩, h4, h5, RepL.more np h6⟩
  | .ref n, v, h => h
theorem RepL.more {C : Kc} {ι : List Addr} {H : Hp} {p : Addr} (np : H p = none) : ∀ {ds : List D} {vs : List V}, RepL C ι H ds vs → RepL (C.more p) ι H ds vs
  | [], _, h => h
  | d :: ds, vs, h => by
    obtain ⟨v, ws, h1, h2, h3⟩ := (show ∃ v ws, vs = v :: ws ∧ RepV C ι H d v ∧ RepL C ι H ds ws from h)
    exact ⟨v, ws, h1, RepV.more np h2, RepL.more np h3⟩
end
mutual
theorem RepV.less {C : Kc} {ι : List Addr} {H : Hp} {p : Addr} : ∀ {d : D} {v : V}, RepV (C.more p) ι H d v → RepV C ι H d v
  | .non, _, h => h
  | .bl _, _, h => h
  | .int _, _, h => h
  | .str _, _, h => h
  | .tup ds, v, h => by
    obtain ⟨a, vs, h1, h2, h2', h3, h4⟩ := h.tup
    exact ⟨a, vs, h1, h2, ⟨h2'.1, fun m => h2'.2 (List.mem_cons_of_mem _ m)⟩, h3, RepL.less h4⟩
  | .vl ds, v, h => by
    obtain ⟨a, vs, h1, h2, h2', h3, h4⟩ := h.vl
    exact ⟨a, vs, h1, h2, ⟨h2'.1, fun m => h2'.2 (List.mem_cons_of_mem _ m)⟩, h3, RepL.less h4⟩
  | .obj c fs ds, v, h => by
    obtain ⟨a, dx, vs, h1, h2, h3, h4, h5, h6⟩ := h.obj
    exact ⟨a, dx, vs, h1, h2, ⟨h3.1, fun m => h3.2 (List.mem_cons_of_mem _ m)⟩, h4, h5, RepL.less h6⟩
  | .ref n, v, h => h
theorem RepL.less {C : Kc} {ι : List Addr} {H : Hp} {p : Addr} : ∀ {ds : List D} {vs : List V}, RepL (C.more p) ι H ds vs → RepL C ι H ds vs
  | [], _, h => h
  | d :: ds, vs, h => by
    obtain ⟨v, ws, h1, h2, h3⟩ := (show ∃ v ws, vs = v :: ws ∧ RepV (C.more p) ι H d v ∧ RepL (C.more p) ι H ds ws from h)
    exact ⟨v, ws, h1, RepV.less h2, RepL.less h3⟩
end

/-- private things more -/
abbrev Kc.mores (C : Kc) (q : List Addr) : Kc := ⟨C.K, C.kc, q ++ C.pv⟩
theorem RepL.mores {C : Kc} {ι : List Addr} {H : Hp} : ∀ {q : List Addr} (hq : ∀ p ∈ q, H p = none) {ds : List D} {vs : List V}, RepL C ι H ds vs → RepL (C.mores q) ι H ds vs
  | [], _, _, _, h => h
  | p :: q, hq, _, _, h => RepL.more (C := C.mores q) (hq p List.mem_cons_self) (RepL.mores (fun x m => hq x (List.mem_cons_of_mem _ m)) h)
end Mr
namespace Mr
open PySem PySem.Spec PyProof.Rows L2 Aq
/-! ### sorted(.., reverse=True), isinstance -/
section
variable {X : Cx} {kc : Str → Addr} {W : WX} {e : Expr} {es : List Expr} {t : AAs} {x : Str} {p pos : Pos} {kws : List Keyword}
theorem a_sortedRev {b : Bool} (hg : Gl X x) (hm : X.mg x = none) (hv : bootBuiltins x = some (.builtin "sorted")) (ha : AA X kc W (e :: es) t) (hk : PK X kws (tCons (tC (.bl b)) tNil)) (hn : x ≠ "__name__" := by decide) (hdb : (x == ("__debug__" : Str)) = false := by decide)
    (he : backTo pos (starEach (e :: es) X.env) = (false, eval e X.env) :: backTo pos (starEach es X.env) := by rfl) (hpl : (backTo pos (starEach (e :: es) X.env)).any (·.1) = false := by rfl)
    (hall : (backToKw pos (keywordEach kws X.env)).all (·.1.isSome) = true := by rfl) (hnone : (backToKw pos (keywordEach kws X.env)).any (·.1.isNone) = false := by rfl) (hks : (backToKw pos (keywordEach kws X.env)).filterMap (·.1) = [Str.ofString "reverse"] := by rfl) :
    AE X kc W (.Call (.Name x p) (e :: es) kws pos) (aCb (dSortedR b) t) :=
  .of (pe_callBK (cr_sortedRev (b := b)) hg hm hv ha hk hn hdb he hpl hall hnone hks) fun pv ι σ H δ g Q rl sl w =>
  ⟨pv, ι, δ, g, rl, sl, (WG.bind w).imp fun vs H1 ⟨ι1, ds, h1, e1, rl1, rp1, w1⟩ => by
    obtain ⟨y, v, rfl, r, w2⟩ := on1_of rp1.1 w1
    show rSortedKw X.K b [.bl b] [v] [.bl b] H1 Q
    split at w2
    · rename_i ns hns
      obtain ⟨a, rfl, ha', l⟩ := lints_of rl1 r hns
      refine ⟨a, ns, rfl, rfl, .inl (.inl ha'), fun ns' q hp hs nq => ?_⟩
      have key : ns' = if b = true then (sortI ns).reverse else sortI ns := by
        cases b with
        | true =>
          have hs' : ns'.Pairwise (· ≥ ·) := hs
          have h1' : ns'.reverse.Pairwise (· ≤ ·) := List.pairwise_reverse.mpr hs'
          rw [if_pos rfl, ← sorted_uniq (((List.reverse_perm ns').trans hp).trans (sortI_perm ns).symm) h1' (sortI_sorted ns), List.reverse_reverse]
        | false =>
          have hs' : ns'.Pairwise (· ≤ ·) := hs
          rw [if_neg Bool.false_ne_true]
          exact sorted_uniq (hp.trans (sortI_perm ns).symm) hs' (sortI_sorted ns)
      rw [key]
      refine w2 ι1 _ _ (ext_new rl1 nq _) (rl1.new nq _) (new_vl rl1 nq ?_ (RepL.ints _))
      rw [List.length_map]
      split
      · rw [List.length_reverse, (sortI_perm ns).length_eq]; exact l
      · rw [(sortI_perm ns).length_eq]; exact l
    · exact w2.elim⟩
/-- what a value's type is called, where a built-in class is asked for -/
def tyD (h : AH) : D → Option String
  | .non => some "NoneType"
  | .bl _ => some "bool"
  | .int _ => some "int"
  | .str _ => some "str"
  | .tup _ => some "tuple"
  | .vl _ => some "list"
  | .obj .. => none
  | .ref n => (h[n]?.bind Cell.seq?).map fun _ => "list"
theorem ty_of {C : Kc} {ι : List Addr} {H : Hp} {h : AH} {d : D} {v : V} {T : String} (rl : Rel C ι H h) (r : RepV C ι H d v) (e : tyD h d = some T) : TyX C.K H v (.type T) := by
  cases d with
  | non => cases e; rw [r.non]; exact .base .non
  | bl b => cases e; rw [r.bl]; exact .base (.bl b)
  | int b => cases e; rw [r.int]; exact .base (.int b)
  | str b => cases e; rw [r.str]; exact .base (.str b)
  | tup ds =>
    cases e
    obtain ⟨a, vs, rfl, h1, _⟩ := r.tup
    exact .base (.tup h1)
  | vl ds =>
    cases e
    obtain ⟨a, vs, rfl, h1, _⟩ := r.vl
    exact .base (.lst h1)
  | obj c fs ds => cases e
  | ref n =>
    obtain ⟨ds, hs, rfl⟩ := Option.map_eq_some_iff.mp (show (h[n]?.bind Cell.seq?).map (fun _ => "list") = some T from e)
    obtain ⟨c, hc, ec⟩ := Option.bind_eq_some_iff.mp hs
    cases c <;> cases ec
    · obtain ⟨a, rfl, _, vs, h1, _⟩ := rl.at r hc
      exact .base (.lst h1)
    · obtain ⟨a, rfl, _, vs, o, h1, _⟩ := rl.at r hc
      exact .base (.frz h1)
/-- isinstance(x, T), T a built-in class -/
def aIsi (T : String) (a : AEx) : AEx := fun δ h => (a δ h).bind fun x h1 => match (tyD h1 x).bind (kitB · T) with
  | some b => .ok (.bl b) h1
  | none => .bad
theorem a_isi {a b : Expr} {aa : AEx} {T : String} (hg : Gl X "isinstance") (hm : X.mg "isinstance" = none) (ha : AE X kc W a aa) (hb : PE X b (tC (.ty T)))
    (hst : starEach [a, b] X.env = (false, eval a X.env) :: starEach [b] X.env := by rfl) (hst2 : starEach [b] X.env = (false, eval b X.env) :: starEach [] X.env := by rfl) (hpl : (backTo pos (starEach [b] X.env)).any (·.1) = false := by rfl) :
    AE X kc W (.Call (.Name "isinstance" p) [a, b] [] pos) (aIsi T aa) :=
  .of (pe_callB call_isi hg hm (by decide +kernel) (pa_cons ha (pa_cons hb pa_nil hst2) hst) (by decide) (by decide) hst hpl) fun pv ι σ H δ g Q rl sl w =>
  ⟨pv, ι, δ, g, rl, sl, (WG.bind w).imp fun v H1 ⟨ι1, d, h1, e1, rl1, rp1, w1⟩ => by
    split at w1
    · rename_i k hk
      obtain ⟨S, h2, h3⟩ := Option.bind_eq_some_iff.mp hk
      exact ⟨v, .ty T, _, _, k, rfl, .ty T, ty_of rl1 rp1 h2, kit_ty h3, w1 ι1 _ H1 .refl rl1 rfl⟩
    · exact w1.elim⟩
/-- isinstance(x, (S, T)) -/
def aIsi2 (S T : String) (a : AEx) : AEx := fun δ h => (a δ h).bind fun x h1 => match (tyD h1 x).bind (kitB · S), (tyD h1 x).bind (kitB · T) with
  | some b, some c => .ok (.bl (b || c)) h1
  | _, _ => .bad
theorem a_isi2 {a b c : Expr} {k : Nat} {aa : AEx} {S T : String} {p3 : Pos} (hg : Gl X "isinstance") (hm : X.mg "isinstance" = none) (ha : AE X kc W a aa) (hb : PE X b (tC (.ty S))) (hc : PE X c (tC (.ty T)))
    (hst : starEach [a, .Tuple [b, c] k p3] X.env = (false, eval a X.env) :: starEach [.Tuple [b, c] k p3] X.env := by rfl) (hst2 : starEach [.Tuple [b, c] k p3] X.env = (false, eval (.Tuple [b, c] k p3) X.env) :: starEach [] X.env := by rfl)
    (hst3 : starEach [b, c] X.env = (false, eval b X.env) :: starEach [c] X.env := by rfl) (hst4 : starEach [c] X.env = (false, eval c X.env) :: starEach [] X.env := by rfl) (hpl : (backTo pos (starEach [.Tuple [b, c] k p3] X.env)).any (·.1) = false := by rfl) :
    AE X kc W (.Call (.Name "isinstance" p) [a, .Tuple [b, c] k p3] [] pos) (aIsi2 S T aa) :=
  .of (pe_callB call_isiT hg hm (by decide +kernel) (pa_cons ha (pa_cons (pe_tup (pa_cons hb (pa_cons hc pa_nil hst4) hst3)) pa_nil hst2) hst) (by decide) (by decide) hst hpl) fun pv ι σ H δ g Q rl sl w =>
  ⟨pv, ι, δ, g, rl, sl, (WG.bind w).imp fun v H1 ⟨ι1, d, h1, e1, rl1, rp1, w1⟩ => by
    refine ⟨by show 2 ≤ sizeLine; decide, fun q nq => ?_⟩
    have en := ext_new rl1 nq (.tup [.ty S, .ty T])
    split at w1
    · rename_i k1 k2 hk1 hk2
      obtain ⟨S1, h2, h3⟩ := Option.bind_eq_some_iff.mp hk1
      obtain ⟨S2, h2', h3'⟩ := Option.bind_eq_some_iff.mp hk2
      rw [h2] at h2'
      cases h2'
      refine ⟨v, q, [.ty S, .ty T], _, [.type S, .type T], (k1 || k2), rfl, upd_same, .cons (.ty S) (.cons (.ty T) .nil), ty_of (rl1.new nq _) (rp1.ext en) h2, ?_, w1 ι1 _ _ en (rl1.new nq _) rfl⟩
      refine kitAny_cons (kit_ty h3) (fun e => ?_) (fun e => by rw [e]; rfl)
      refine kitAny_cons (kit_ty h3') (fun e' => ?_) (fun e' => by rw [e']; cases k1 <;> rfl)
      rw [e, e']
      exact kitAny_nil
    · exact w1.elim⟩
end
/-! ### what is walked -/
structure Src where
  items : List D
  at_ : List (Nat × Cell)
def Src.ok (s : Src) (h : AH) : Prop := ∀ p ∈ s.at_, h[p.1]? = some p.2
/-- an iterator that goes over the items, as long as the cells behind it stand as they were -/
structure IsSrc (C : Kc) (ι0 : List Addr) (H0 : Hp) (J : It) (s : Src) : Prop where
  go : ∀ (q : List Addr) ι H h (i : Nat) (d : D), (∀ p ∈ q, H0 p = none) → Ext ι0 H0 ι H → Rel (C.mores q) ι H h → s.ok h → s.items[i]? = some d → J.go i H ∧ ∀ x H', J.yld i H x H' → Ext ι H ι H' ∧ Rel (C.mores q) ι H' h ∧ RepV (C.mores q) ι H' d x
  stop : ∀ (q : List Addr) ι H h, (∀ p ∈ q, H0 p = none) → Ext ι0 H0 ι H → Rel (C.mores q) ι H h → s.ok h → J.stop s.items.length H
abbrev ASrc := AEnv → AH → R Src
def WI (C : Kc) (ι : List Addr) (H : Hp) (σ : L2.St) (W : WX) (Q : It → Hp → Prop) : R Src → Prop
  | .ok s h' => ∀ ι' J H', Ext ι H ι' H' → Rel C ι' H' h' → IsSrc C ι' H' J s → Q J H'
  | .er c x h' => ∀ ι' cv dx H', Ext ι H ι' H' → Rel C ι' H' h' → RepX C ι' H' c x cv dx → W cv dx σ H'
  | .bad => False
def tiA (K : PySem.W.Frag) (kc : Str → Addr) (W : WX) (as : ASrc) : TI := fun σ H Q => ∃ pv, let C : Kc := ⟨K, kc, pv⟩; ∃ ι δ h, Rel C ι H h ∧ Slo C ι H σ δ ∧ WI C ι H σ W Q (as δ h)
abbrev AI (X : Cx) (kc : Str → Addr) (W : WX) (tg iter : Expr) (as : ASrc) : Prop := PI X tg iter (tiA X.K kc W as)
theorem AI.of {X : Cx} {kc : Str → Addr} {W : WX} {tg iter : Expr} {wi : TI} {as : ASrc} (h : PI X tg iter wi) (f : ∀ pv ι σ H δ h Q, Rel (Kp X kc pv) ι H h → Slo (Kp X kc pv) ι H σ δ → WI (Kp X kc pv) ι H σ W Q (as δ h) → wi σ H Q) : AI X kc W tg iter as :=
  ⟨fun pins s σ H Q I ⟨pv, ι, δ, g, rl, sl, w⟩ => h.run pins s σ H Q I (f pv ι σ H δ g Q rl sl w)⟩
section
variable {X : Cx} {kc : Str → Addr} {W : WX} {tg iter e : Expr} {ae : AEx} {C : Kc}
theorem WI.bind {C : Kc} {α β : Type} {rep : Rp α β} {ι : List Addr} {H : Hp} {σ : L2.St} {Q : It → Hp → Prop} {r : R α} {f : α → AH → R Src} (w : WI C ι H σ W Q (r.bind f)) : WG rep C ι H σ W (fun v H' => ∃ ι' a h', Ext ι H ι' H' ∧ Rel C ι' H' h' ∧ rep ι' H' a v ∧ WI C ι' H' σ W Q (f a h')) r := by
  cases r with
  | ok d h' =>
    refine fun ι' v H' e r p => ⟨ι', d, h', e, r, p, ?_⟩
    have w' : WI C ι H σ W Q (f d h') := w
    cases hf : f d h' with
    | ok s h2 =>
      rw [hf] at w'
      exact fun ι2 J H2 e2 => w' ι2 J H2 (e.trans e2)
    | er c x h2 =>
      rw [hf] at w'
      exact fun ι2 v2 dx H2 e2 => w' ι2 v2 dx H2 (e.trans e2)
    | bad =>
      rw [hf] at w'
      exact w'
  | er c x h' => exact w
  | bad => exact w
/-- a list's or a tuple's items -/
def srcOf (h : AH) : D → Option Src
  | .vl ds => some ⟨ds, []⟩
  | .tup ds => some ⟨ds, []⟩
  | .ref n => match h[n]? with
    | some (.lst ds) => some ⟨ds, [(n, .lst ds)]⟩
    | some (.ro ds) => some ⟨ds, [(n, .ro ds)]⟩
    | _ => none
  | _ => none
def iSeqA (a : AEx) : ASrc := fun δ h => (a δ h).bind fun x h1 => match srcOf h1 x with
  | some s => .ok s h1
  | none => .bad
theorem isSrc_list {ι0 : List Addr} {H0 : Hp} {a : Addr} {s : Src} (hs : ∀ (q : List Addr) ι H h, (∀ p ∈ q, H0 p = none) → Ext ι0 H0 ι H → Rel (C.mores q) ι H h → s.ok h → ∃ vs, SqL C.K H a vs ∧ RepL (C.mores q) ι H s.items vs) : IsSrc C ι0 H0 (Itl C.K a) s where
  go q ι H h i d hq e rl ok hd := by
    obtain ⟨vs, h1, h2⟩ := hs q ι H h hq e rl ok
    obtain ⟨v, hv, rv⟩ := h2.get hd
    refine ⟨⟨vs, v, h1, hv⟩, fun x H' y => ?_⟩
    obtain ⟨rfl, y⟩ := y
    have := y vs h1
    rw [hv] at this
    cases this
    exact ⟨.refl, rl, rv⟩
  stop q ι H h hq e rl ok := by
    obtain ⟨vs, h1, h2⟩ := hs q ι H h hq e rl ok
    exact ⟨vs, h1, by rw [h2.length]; exact Nat.le_refl _⟩
theorem isSrc_tup {ι0 : List Addr} {H0 : Hp} {a : Addr} {s : Src} (hs : ∀ (q : List Addr) ι H h, (∀ p ∈ q, H0 p = none) → Ext ι0 H0 ι H → Rel (C.mores q) ι H h → s.ok h → ∃ vs, SqT C.K H a vs ∧ RepL (C.mores q) ι H s.items vs) : IsSrc C ι0 H0 (Itt C.K a) s where
  go q ι H h i d hq e rl ok hd := by
    obtain ⟨vs, h1, h2⟩ := hs q ι H h hq e rl ok
    obtain ⟨v, hv, rv⟩ := h2.get hd
    refine ⟨⟨vs, v, h1, hv⟩, fun x H' y => ?_⟩
    obtain ⟨rfl, y⟩ := y
    have := y vs h1
    rw [hv] at this
    cases this
    exact ⟨.refl, rl, rv⟩
  stop q ι H h hq e rl ok := by
    obtain ⟨vs, h1, h2⟩ := hs q ι H h hq e rl ok
    exact ⟨vs, h1, by rw [h2.length]; exact Nat.le_refl _⟩
/-- where a source stands: a list or a tuple -/
theorem src_at {ι0 : List Addr} {H0 : Hp} {h0 : AH} {x : D} {v : V} {s : Src} (rl0 : Rel C ι0 H0 h0) (r : RepV C ι0 H0 x v) (e : srcOf h0 x = some s) : ∃ a, v = .ref a ∧
    ((SqL C.K H0 a (match H0 a with | some (.lst vs) => vs | some (.frz _ (.lst vs)) => vs | _ => []) ∧ ∀ (q : List Addr) ι H h, (∀ p ∈ q, H0 p = none) → Ext ι0 H0 ι H → Rel (C.mores q) ι H h → s.ok h → ∃ vs, SqL C.K H a vs ∧ RepL (C.mores q) ι H s.items vs) ∨
     (SqT C.K H0 a (match H0 a with | some (.tup vs) => vs | _ => []) ∧ ∀ (q : List Addr) ι H h, (∀ p ∈ q, H0 p = none) → Ext ι0 H0 ι H → Rel (C.mores q) ι H h → s.ok h → ∃ vs, SqT C.K H a vs ∧ RepL (C.mores q) ι H s.items vs)) := by
  cases x with
  | vl ds =>
    cases (show some (⟨ds, []⟩ : Src) = some s from e)
    obtain ⟨a, vs, rfl, h1, h2, h3, h4⟩ := r.vl
    refine ⟨a, rfl, .inl ⟨.inl (.inl (by rw [h1])), fun q ι H h hq ex rl ok => ⟨vs, .inl (.inl (ex.keep _ _ h2.1 h1)), (h4.mores hq).ext ex⟩⟩⟩
  | tup ds =>
    cases (show some (⟨ds, []⟩ : Src) = some s from e)
    obtain ⟨a, vs, rfl, h1, h2, h3, h4⟩ := r.tup
    refine ⟨a, rfl, .inr ⟨.inl (.inl (by rw [h1])), fun q ι H h hq ex rl ok => ⟨vs, .inl (.inl (ex.keep _ _ h2.1 h1)), (h4.mores hq).ext ex⟩⟩⟩
  | ref n =>
    have e' : (match h0[n]? with
      | some (.lst ds) => some (⟨ds, [(n, .lst ds)]⟩ : Src)
      | some (.ro ds) => some ⟨ds, [(n, .ro ds)]⟩
      | _ => none) = some s := e
    split at e'
    · rename_i ds hc
      cases e'
      obtain ⟨a, rfl, ha, vs, h1, _⟩ := rl0.at r hc
      refine ⟨a, rfl, .inl ⟨.inl (.inl (by rw [h1])), fun q ι H h hq ex rl ok => ?_⟩⟩
      have := ok (n, .lst ds) List.mem_cons_self
      obtain ⟨b, hb, ws, h2, _, h3⟩ := rl.cell n _ this
      rw [pre_get ex.pre ha] at hb
      cases hb
      exact ⟨ws, .inl (.inl h2), h3⟩
    · rename_i ds hc
      cases e'
      obtain ⟨a, rfl, ha, vs, o, h1, _⟩ := rl0.at r hc
      refine ⟨a, rfl, .inl ⟨.inl (.inr ⟨o, by rw [h1]⟩), fun q ι H h hq ex rl ok => ?_⟩⟩
      have := ok (n, .ro ds) List.mem_cons_self
      obtain ⟨b, hb, ws, o', h2, _, h3⟩ := rl.cell n _ this
      rw [pre_get ex.pre ha] at hb
      cases hb
      exact ⟨ws, .inl (.inr ⟨o', h2⟩), h3⟩
    · cases e'
  | _ => cases e
theorem i_seq (he : AE X kc W iter ae) : AI X kc W tg iter (iSeqA ae) := .of (pi_seq he) fun pv ι σ H δ g Q rl sl w =>
  ⟨pv, ι, δ, g, rl, sl, (WI.bind w).imp fun v H1 ⟨ι1, d, h1, e1, rl1, rp1, w1⟩ => by
    split at w1
    · rename_i s hs
      obtain ⟨a, rfl, h | h⟩ := src_at rl1 rp1 hs
      · exact ⟨a, _, rfl, .inl ⟨h.1, w1 ι1 _ H1 .refl rl1 (isSrc_list h.2)⟩⟩
      · exact ⟨a, _, rfl, .inr ⟨h.1, w1 ι1 _ H1 .refl rl1 (isSrc_tup h.2)⟩⟩
    · exact w1.elim⟩
/-- range(n), range(a, b) -/
def rgD (lo : Int) (n : Nat) : List D := (List.range n).map fun i => D.int (lo + (i : Nat))
def rgOk (lo hi : Int) : Bool := decide (-(2 ^ 62) ≤ lo ∧ lo < 2 ^ 62 ∧ -(2 ^ 62) ≤ hi ∧ hi < 2 ^ 62)
def iRg1 (t : AAs) : ASrc := fun δ h => (t δ h).bind fun ds h1 => match ds with
  | [.int j] => if rgOk 0 j then .ok ⟨rgD 0 j.toNat, []⟩ h1 else .bad
  | _ => .bad
def iRg2 (t : AAs) : ASrc := fun δ h => (t δ h).bind fun ds h1 => match ds with
  | [.int i, .int j] => if rgOk i j then .ok ⟨rgD i (j - i).toNat, []⟩ h1 else .bad
  | _ => .bad
theorem isSrc_rg {ι0 : List Addr} {H0 : Hp} {lo : Int} {n : Nat} : IsSrc C ι0 H0 (Itr lo n) ⟨rgD lo n, []⟩ where
  go q ι H h i d hq e rl ok hd := by
    have hd' : (rgD lo n)[i]? = some d := hd
    unfold rgD at hd'
    rw [List.getElem?_map] at hd'
    obtain ⟨j, hj, rfl⟩ := Option.map_eq_some_iff.mp hd'
    have hi : i < n := by
      have := (List.getElem?_eq_some_iff.mp hj).1
      rwa [List.length_range] at this
    rw [List.getElem?_range hi] at hj
    cases hj
    exact ⟨hi, fun x H' y => by
      obtain ⟨rfl, rfl⟩ := y
      exact ⟨.refl, rl, rfl⟩⟩
  stop q ι H h hq e rl ok := by
    show n ≤ (rgD lo n).length
    unfold rgD
    rw [List.length_map, List.length_range]
    exact Nat.le_refl _
theorem i_rg1 {t : AAs} {es : List Expr} {wi : TI} {ta : TA} (hp : PI X tg iter (iRng1 (taA X.K kc W 1 t))) : AI X kc W tg iter (iRg1 t) := .of hp fun pv ι σ H δ g Q rl sl w =>
  ⟨pv, ι, δ, g, rl, sl, (WI.bind w).imp fun vs H1 ⟨ι1, ds, h1, e1, rl1, rp1, w1⟩ => by
    split at w1
    · rename_i j
      split at w1
      · rename_i hr
        obtain ⟨v, rfl, r⟩ := repL1 rp1.1
        have hr' := of_decide_eq_true (show decide _ = true from hr)
        rw [r.int]
        exact ⟨j, rfl, hr'.2.2.1, hr'.2.2.2, w1 ι1 _ H1 .refl rl1 isSrc_rg⟩
      · exact w1.elim
    · exact w1.elim⟩
theorem i_rg2 {t : AAs} (hp : PI X tg iter (iRng2 (taA X.K kc W 2 t))) : AI X kc W tg iter (iRg2 t) := .of hp fun pv ι σ H δ g Q rl sl w =>
  ⟨pv, ι, δ, g, rl, sl, (WI.bind w).imp fun vs H1 ⟨ι1, ds, h1, e1, rl1, rp1, w1⟩ => by
    split at w1
    · rename_i i j
      split at w1
      · rename_i hr
        obtain ⟨v, u, rfl, r, r'⟩ := repL2 rp1.1
        have hr' := of_decide_eq_true (show decide _ = true from hr)
        rw [r.int, r'.int]
        exact ⟨i, j, rfl, ⟨hr'.1, hr'.2.1, hr'.2.2.1, hr'.2.2.2⟩, w1 ι1 _ H1 .refl rl1 isSrc_rg⟩
      · exact w1.elim
    · exact w1.elim⟩
/-- enumerate(xs) -/
def enD (ds : List D) : List D := (List.range ds.length).zipWith (fun i d => D.tup [.int (i : Nat), d]) ds
def iEnA (t : AAs) : ASrc := fun δ h => (t δ h).bind fun ds h1 => match ds with
  | [x] => match srcOf h1 x with
    | some s => .ok ⟨enD s.items, s.at_⟩ h1
    | none => .bad
  | _ => .bad
theorem en_get {ds : List D} {i : Nat} {d : D} (h : (enD ds)[i]? = some d) : ∃ x, ds[i]? = some x ∧ d = .tup [.int (i : Nat), x] := by
  unfold enD at h
  rw [List.getElem?_zipWith] at h
  split at h
  · rename_i a b ha hb
    cases h
    have hi := (List.getElem?_eq_some_iff.mp ha).1
    rw [List.length_range] at hi
    rw [List.getElem?_range hi] at ha
    cases ha
    exact ⟨b, hb, rfl⟩
  · cases h
theorem en_len (ds : List D) : (enD ds).length = ds.length := by
  unfold enD
  rw [List.length_zipWith, List.length_range, Nat.min_self]
theorem yld_pair {ι : List Addr} {H : Hp} {h : AH} {T : Addr} {x y : V} {d d' : D} (rl : Rel C ι H h) (nT : H T = none) (r : RepV C ι H d x) (r' : RepV C ι H d' y) : Ext ι H ι (upd H T (.tup [x, y])) ∧ Rel C ι (upd H T (.tup [x, y])) h ∧ RepV C ι (upd H T (.tup [x, y])) (.tup [d, d']) (.ref T) :=
  ⟨ext_new rl nT _, rl.new nT _, new_tup rl nT (by show 2 ≤ sizeLine; decide) (.cons r (.one r'))⟩
theorem isSrc_en {ι0 : List Addr} {H0 : Hp} {a : Addr} {s : Src} (hs : ∀ (q : List Addr) ι H h, (∀ p ∈ q, H0 p = none) → Ext ι0 H0 ι H → Rel (C.mores q) ι H h → s.ok h → ∃ vs, SqL C.K H a vs ∧ RepL (C.mores q) ι H s.items vs) : IsSrc C ι0 H0 (Ite C.K a) ⟨enD s.items, s.at_⟩ where
  go q ι H h i d hq e rl ok hd := by
    obtain ⟨vs, h1, h2⟩ := hs q ι H h hq e rl ok
    obtain ⟨x, hx, rfl⟩ := en_get hd
    obtain ⟨v, hv, rv⟩ := h2.get hx
    refine ⟨⟨vs, v, h1, hv⟩, fun y H' yl => ?_⟩
    obtain ⟨T, z, rfl, nT, rfl, hz⟩ := yl
    have := hz vs h1
    rw [hv] at this
    cases this
    exact yld_pair (C := C.mores q) rl nT rfl rv
  stop q ι H h hq e rl ok := by
    obtain ⟨vs, h1, h2⟩ := hs q ι H h hq e rl ok
    exact ⟨vs, h1, by rw [← h2.length, en_len]; exact Nat.le_refl _⟩
theorem isSrc_enT {ι0 : List Addr} {H0 : Hp} {a : Addr} {s : Src} (hs : ∀ (q : List Addr) ι H h, (∀ p ∈ q, H0 p = none) → Ext ι0 H0 ι H → Rel (C.mores q) ι H h → s.ok h → ∃ vs, SqT C.K H a vs ∧ RepL (C.mores q) ι H s.items vs) : IsSrc C ι0 H0 (IteT C.K a) ⟨enD s.items, s.at_⟩ where
  go q ι H h i d hq e rl ok hd := by
    obtain ⟨vs, h1, h2⟩ := hs q ι H h hq e rl ok
    obtain ⟨x, hx, rfl⟩ := en_get hd
    obtain ⟨v, hv, rv⟩ := h2.get hx
    refine ⟨⟨vs, v, h1, hv⟩, fun y H' yl => ?_⟩
    obtain ⟨T, z, rfl, nT, rfl, hz⟩ := yl
    have := hz vs h1
    rw [hv] at this
    cases this
    exact yld_pair (C := C.mores q) rl nT rfl rv
  stop q ι H h hq e rl ok := by
    obtain ⟨vs, h1, h2⟩ := hs q ι H h hq e rl ok
    exact ⟨vs, h1, by rw [← h2.length, en_len]; exact Nat.le_refl _⟩
theorem i_en {t : AAs} (hp : PI X tg iter (iEnumS X.K (taA X.K kc W 1 t))) : AI X kc W tg iter (iEnA t) := .of hp fun pv ι σ H δ g Q rl sl w =>
  ⟨pv, ι, δ, g, rl, sl, (WI.bind w).imp fun vs H1 ⟨ι1, ds, h1, e1, rl1, rp1, w1⟩ => by
    split at w1
    · rename_i x
      split at w1
      · rename_i s hs
        obtain ⟨v, rfl, r⟩ := repL1 rp1.1
        obtain ⟨a, rfl, h | h⟩ := src_at rl1 r hs
        · exact ⟨a, _, rfl, .inl ⟨h.1, w1 ι1 _ H1 .refl rl1 (isSrc_en h.2)⟩⟩
        · exact ⟨a, _, rfl, .inr ⟨h.1, w1 ι1 _ H1 .refl rl1 (isSrc_enT h.2)⟩⟩
      · exact w1.elim
    · exact w1.elim⟩
end
end Mr
namespace Mr
open PySem PySem.Spec PyProof.Rows L2 Aq
/-! ### targets -/
abbrev ATg := D → AEnv → AH → R AEnv
abbrev ATgs := List D → AEnv → AH → R AEnv
def RepS (C : Kc) : Rp AEnv L2.St := fun ι H δ σ => Slo C ι H σ δ
/-- stores that cannot raise -/
def WT (C : Kc) (ι : List Addr) (H : Hp) (Q : L2.St → Hp → Prop) : R AEnv → Prop
  | .ok δ h' => ∀ ι' σ H', Ext ι H ι' H' → Rel C ι' H' h' → Slo C ι' H' σ δ → Q σ H'
  | .er .. => False
  | .bad => False
theorem WT.ext {C : Kc} {ι ι1 : List Addr} {H H1 : Hp} {Q : L2.St → Hp → Prop} {r : R AEnv} (e : Ext ι H ι1 H1) (w : WT C ι H Q r) : WT C ι1 H1 Q r := by
  cases r with
  | ok d h' => exact fun ι' v H' e' => w ι' v H' (e.trans e')
  | er c x h' => exact w
  | bad => exact w
theorem WT.imp {C : Kc} {ι : List Addr} {H : Hp} {Q Q' : L2.St → Hp → Prop} {r : R AEnv} (w : WT C ι H Q r) (f : ∀ σ H', Q σ H' → Q' σ H') : WT C ι H Q' r := by
  cases r with
  | ok d h' => exact fun ι' v H' e' r p => f _ _ (w ι' v H' e' r p)
  | er c x h' => exact w
  | bad => exact w
theorem WT.bind {C : Kc} {ι : List Addr} {H : Hp} {Q : L2.St → Hp → Prop} {r : R AEnv} {f : AEnv → AH → R AEnv} (w : WT C ι H Q (r.bind f)) : WT C ι H (fun σ H' => ∃ ι' δ h', Ext ι H ι' H' ∧ Rel C ι' H' h' ∧ Slo C ι' H' σ δ ∧ WT C ι' H' Q (f δ h')) r := by
  cases r with
  | ok d h' => exact fun ι' v H' e r p => ⟨ι', d, h', e, r, p, WT.ext e w⟩
  | er c x h' => exact w
  | bad => exact w
/-- an expression in a target: it must not raise, either -/
theorem WT.bindE {C : Kc} {ι : List Addr} {H : Hp} {σ : L2.St} {W : WX} {Q : L2.St → Hp → Prop} {α β : Type} {rep : Rp α β} {r : R α} {f : α → AH → R AEnv} (w : WT C ι H Q (r.bind f)) : WG rep C ι H σ W (fun v H' => ∃ ι' a h', Ext ι H ι' H' ∧ Rel C ι' H' h' ∧ rep ι' H' a v ∧ WT C ι' H' Q (f a h')) r := by
  cases r with
  | ok d h' => exact fun ι' v H' e r p => ⟨ι', d, h', e, r, p, WT.ext e w⟩
  | er c x h' => exact w.elim
  | bad => exact w
def tgA (K : PySem.W.Frag) (kc : Str → Addr) (ag : ATg) : TG := fun v σ H Q => ∃ pv, let C : Kc := ⟨K, kc, pv⟩; ∃ ι d δ h, Rel C ι H h ∧ Slo C ι H σ δ ∧ RepV C ι H d v ∧ WT C ι H Q (ag d δ h)
def tgsA (K : PySem.W.Frag) (kc : Str → Addr) (ag : ATgs) : TGs := fun vs σ H Q => ∃ pv, let C : Kc := ⟨K, kc, pv⟩; ∃ ι ds δ h, Rel C ι H h ∧ Slo C ι H σ δ ∧ RepL C ι H ds vs ∧ WT C ι H Q (ag ds δ h)
abbrev AG (X : Cx) (kc : Str → Addr) (tg : Expr) (ag : ATg) : Prop := PG X tg (tgA X.K kc ag)
abbrev AGs (X : Cx) (kc : Str → Addr) (tgs : List Expr) (ag : ATgs) : Prop := PGs X tgs (tgsA X.K kc ag)
section
variable {X : Cx} {kc : Str → Addr} {W : WX} {tg e : Expr} {es : List Expr} {pos : Pos}
theorem AG.of {t : TG} {ag : ATg} (h : PG X tg t) (f : ∀ pv ι v σ H d δ h Q, Rel (Kp X kc pv) ι H h → Slo (Kp X kc pv) ι H σ δ → RepV (Kp X kc pv) ι H d v → WT (Kp X kc pv) ι H Q (ag d δ h) → t v σ H Q) : AG X kc tg ag :=
  ⟨fun pins s σ H v u Q I r ⟨pv, ι, d, δ, g, rl, sl, rp, w⟩ => h.run pins s σ H v u Q I r (f pv ι v σ H d δ g Q rl sl rp w)⟩
theorem AGs.of {t : TGs} {ag : ATgs} (h : PGs X es t) (f : ∀ pv ι vs σ H ds δ h Q, Rel (Kp X kc pv) ι H h → Slo (Kp X kc pv) ι H σ δ → RepL (Kp X kc pv) ι H ds vs → WT (Kp X kc pv) ι H Q (ag ds δ h) → t vs σ H Q) : AGs X kc es ag :=
  ⟨fun pins s σ H v u Q I r ⟨pv, ι, d, δ, g, rl, sl, rp, w⟩ => h.run pins s σ H v u Q I r (f pv ι v σ H d δ g Q rl sl rp w)⟩
def gNam (i : Nat) : ATg := fun d δ h => .ok (δ.set i (some d)) h
theorem g_nam {i : Nat} (h : PG X tg (gName i)) : AG X kc tg (gNam i) := .of h fun pv ι v σ H d δ g Q rl sl rp w => w ι _ H .refl rl (sl.set i rp)
def gNilA : ATgs := fun ds δ h => match ds with
  | [] => .ok δ h
  | _ => .bad
def gConsA (a : ATg) (r : ATgs) : ATgs := fun ds δ h => match ds with
  | d :: ds => (a d δ h).bind fun δ1 h1 => r ds δ1 h1
  | [] => .bad
theorem gs_nil : AGs X kc [] gNilA := .of pgs_nil fun pv ι vs σ H ds δ g Q rl sl rp w => by
  unfold gNilA at w
  split at w
  · exact ⟨rp, w ι _ H .refl rl sl⟩
  · exact w.elim
theorem gs_cons {a : ATg} {r : ATgs} (ha : AG X kc e a) (hr : AGs X kc es r) (hs : (assignEach (e :: es) X.env).map (·.2) = assign e X.env :: (assignEach es X.env).map (·.2) := by rfl) : AGs X kc (e :: es) (gConsA a r) :=
  .of (pgs_cons ha hr hs) fun pv ι vs σ H ds δ g Q rl sl rp w => by
  unfold gConsA at w
  split at w
  · rename_i d ds
    obtain ⟨v, ws, rfl, h2, h3⟩ := (show ∃ v ws, vs = v :: ws ∧ RepV (Kp X kc pv) ι H d v ∧ RepL (Kp X kc pv) ι H ds ws from rp)
    refine ⟨v, ws, rfl, pv, ι, d, δ, g, rl, sl, h2, (WT.bind w).imp fun σ1 H1 ⟨ι1, δ1, h1, e1, rl1, sl1, w1⟩ => ?_⟩
    exact ⟨pv, ι1, ds, δ1, h1, rl1, sl1, h3.ext e1, w1⟩
  · exact w.elim
/-- a, b, .. = a list or tuple of so many -/
def gUn (n : Nat) (r : ATgs) : ATg := fun d δ h => match seqOf h d with
  | some ds => if ds.length = n then r ds δ h else .bad
  | none => .bad
theorem g_un {r : ATgs} {k n : Nat} (hc : X.calm = true) (h : AGs X kc es r) (hn : (assignEach es X.env).length = n := by rfl) (hst : (assignEach es X.env).findIdx? (·.1) = none := by rfl) : AG X kc (.Tuple es k pos) (gUn n r) :=
  .of (pg_seq hc h hn hst) fun pv ι v σ H d δ g Q rl sl rp w => by
  unfold gUn at w
  split at w
  · rename_i ds hd
    split at w
    · rename_i hl
      obtain ⟨a, vs, rfl, hs, _, rv⟩ := seq_of rl rp hd
      exact ⟨a, vs, rfl, seq_sq hs, by rw [← rv.length]; exact hl, pv, ι, ds, δ, g, rl, sl, rv, w⟩
    · exact w.elim
  · exact w.elim
/-- o[i] = v, o a list that is a cell -/
def gSubA (o i : AEx) : ATg := fun d δ h => (o δ h).bind fun x h1 => (i δ h1).bind fun y h2 => match x, y with
  | .ref n, .int k => match h2[n]?.bind Cell.lst? with
    | some ds => match ixN ds.length k with
      | some j => .ok δ (h2.set n (.lst (ds.set j d)))
      | none => .bad
    | none => .bad
  | _, _ => .bad
theorem cell_lst {C : Kc} {ι : List Addr} {H : Hp} {h : AH} {n : Nat} {v : V} {ds : List D} (rl : Rel C ι H h) (r : RepV C ι H (.ref n) v) (e : h[n]?.bind Cell.lst? = some ds) : ∃ a vs, v = .ref a ∧ ι[n]? = some a ∧ H a = some (.lst vs) ∧ vs.length ≤ sizeLine ∧ RepL C ι H ds vs := by
  obtain ⟨c, hc, ec⟩ := Option.bind_eq_some_iff.mp e
  cases c <;> cases ec
  obtain ⟨a, h1, h2, vs, h3, h4, h5⟩ := rl.at r hc
  exact ⟨a, vs, h1, h2, h3, h4, h5⟩
theorem g_sub {o i : Expr} {ao ai : AEx} (ho : AE X kc W o ao) (hi : AE X kc W i ai) (ha : ∀ v, assign (.Subscript o i pos) X.env v = (do
      let ov ← holding [v] (eval o X.env)
      let iv ← holding [v, ov] (eval i X.env)
      standAt pos
      holding [v, ov, iv] (setItem ov iv v)
      release [v, ov, iv] []) := by intro _; rfl) : AG X kc (.Subscript o i pos) (gSubA ao ai) :=
  .of (pg_sub ho hi set_list ha) fun pv ι v σ H d δ g Q rl sl rp w => by
  refine ⟨pv, ι, δ, g, rl, sl, (WT.bindE w).imp fun x H1 hx => ?_⟩
  obtain ⟨ι1, d1, h1, e1, rl1, rp1, w1⟩ := hx
  refine ⟨pv, ι1, δ, h1, rl1, sl.ext e1, (WT.bindE w1).imp fun y H2 hy => ?_⟩
  obtain ⟨ι2, d2, h2, e2, rl2, rp2, w2⟩ := hy
  split at w2
  · rename_i n k
    split at w2
    · rename_i ds hd
      split at w2
      · rename_i j hj
        obtain ⟨a, vs, rfl, ha, h3, h4, h5⟩ := cell_lst rl2 (rp1.ext e2) hd
        have en := ext_set rl2 ha (.lst (vs.set j v))
        refine ⟨a, vs, k, j, rfl, rp2, h3, by rw [← h5.length]; exact hj, ?_⟩
        refine w2 ι2 _ _ en (rl2.set ha ⟨_, upd_same, by rw [List.length_set]; exact h4, ?_⟩) ((sl.ext (e1.trans e2)).ext en)
        exact RepL.set (((rp.ext (e1.trans e2))).ext en) j (h5.ext en)
      · exact w2.elim
    · exact w2.elim
  · exact w2.elim
end
/-! ### statements -/
def RepX' := RepX
def WS (C : Kc) (ι : List Addr) (H : Hp) (W : WX) (D : Ends) : RS → Prop
  | .nx δ h => ∀ ι' σ' H', Ext ι H ι' H' → Rel C ι' H' h → Slo C ι' H' σ' δ → D.nx σ' H'
  | .rt d h => ∀ ι' v H', Ext ι H ι' H' → Rel C ι' H' h → RepV C ι' H' d v → D.rt v H'
  | .bk δ h => ∀ ι' σ' H', Ext ι H ι' H' → Rel C ι' H' h → Slo C ι' H' σ' δ → D.bk σ' H'
  | .ct δ h => ∀ ι' σ' H', Ext ι H ι' H' → Rel C ι' H' h → Slo C ι' H' σ' δ → D.ct σ' H'
  | .er c x δ h => ∀ ι' σ' cv dx H', Ext ι H ι' H' → Rel C ι' H' h → Slo C ι' H' σ' δ → RepX C ι' H' c x cv dx → W cv dx σ' H'
  | .bad => False
theorem WS.ext {C : Kc} {ι ι1 : List Addr} {H H1 : Hp} {W : WX} {D : Ends} {r : RS} (e : Ext ι H ι1 H1) (w : WS C ι H W D r) : WS C ι1 H1 W D r := by
  cases r with
  | nx δ h => exact fun ι' σ' H' e' => w ι' σ' H' (e.trans e')
  | rt δ h => exact fun ι' σ' H' e' => w ι' σ' H' (e.trans e')
  | bk δ h => exact fun ι' σ' H' e' => w ι' σ' H' (e.trans e')
  | ct δ h => exact fun ι' σ' H' e' => w ι' σ' H' (e.trans e')
  | er c x δ h => exact fun ι' σ' cv dx H' e' => w ι' σ' cv dx H' (e.trans e')
  | bad => exact w
def tsA (K : PySem.W.Frag) (kc : Str → Addr) (W : WX) (as : ASt) : TS := fun D σ H => ∃ pv, let C : Kc := ⟨K, kc, pv⟩; ∃ ι δ h, Rel C ι H h ∧ Slo C ι H σ δ ∧ WS C ι H W D (as δ h)
abbrev AS (X : Cx) (kc : Str → Addr) (W : WX) (st : Stmt) (as : ASt) : Prop := PS X st (tsA X.K kc W as)
abbrev ASs (X : Cx) (kc : Str → Addr) (W : WX) (st : List Stmt) (as : ASt) : Prop := PSs X st (tsA X.K kc W as)
section
variable {X : Cx} {kc : Str → Addr} {W : WX} {tg e : Expr} {es : List Expr} {pos : Pos} {st : Stmt} {sts : List Stmt} {ae : AEx} {at_ : ATs} {as bs : ASt}
theorem AS.of {t : TS} (h : PS X st t) (f : ∀ pv ι σ H δ h D, Rel (Kp X kc pv) ι H h → Slo (Kp X kc pv) ι H σ δ → WS (Kp X kc pv) ι H W D (as δ h) → t D σ H) : AS X kc W st as :=
  ⟨fun pins s σ H D I ⟨pv, ι, δ, g, rl, sl, w⟩ => h.run pins s σ H D I (f pv ι σ H δ g D rl sl w)⟩
theorem ASs.of {t : TS} (h : PSs X sts t) (f : ∀ pv ι σ H δ h D, Rel (Kp X kc pv) ι H h → Slo (Kp X kc pv) ι H σ δ → WS (Kp X kc pv) ι H W D (as δ h) → t D σ H) : ASs X kc W sts as :=
  ⟨fun pins s σ H D I ⟨pv, ι, δ, g, rl, sl, w⟩ => h.run pins s σ H D I (f pv ι σ H δ g D rl sl w)⟩
/-- an expression's answer, then a statement's -/
def R.thn {α : Type} (r : R α) (δ : AEnv) (f : α → AH → RS) : RS := match r with
  | .ok a h => f a h
  | .er c x h => .er c x δ h
  | .bad => .bad
@[simp] theorem R.thn_ok {α : Type} {a : α} {h : AH} {δ : AEnv} {f : α → AH → RS} : (R.ok a h).thn δ f = f a h := rfl
@[simp] theorem R.thn_er {α : Type} {c : Str} {x : D} {h : AH} {δ : AEnv} {f : α → AH → RS} : (R.er c x h : R α).thn δ f = .er c x δ h := rfl
@[simp] theorem R.thn_bad {α : Type} {δ : AEnv} {f : α → AH → RS} : (R.bad : R α).thn δ f = .bad := rfl
theorem WS.thn {C : Kc} {ι : List Addr} {H : Hp} {σ : L2.St} {δ : AEnv} {α β : Type} {rep : Rp α β} {r : R α} {f : α → AH → RS} {D : Ends} (sl : Slo C ι H σ δ) (w : WS C ι H W D (r.thn δ f)) :
    WG rep C ι H σ W (fun v H' => ∃ ι' a h', Ext ι H ι' H' ∧ Rel C ι' H' h' ∧ rep ι' H' a v ∧ WS C ι' H' W D (f a h')) r := by
  cases r with
  | ok d h' => exact fun ι' v H' e r p => ⟨ι', d, h', e, r, p, WS.ext e w⟩
  | er c x h' => exact fun ι' cv dx H' e rl rx => w ι' σ cv dx H' e rl (sl.ext e) rx
  | bad => exact w
def RS.seq (r : RS) (f : AEnv → AH → RS) : RS := match r with
  | .nx δ h => f δ h
  | r => r
def sNil : ASt := fun δ h => .nx δ h
def sSeq (a b : ASt) : ASt := fun δ h => (a δ h).seq b
theorem s_nil : ASs X kc W [] sNil := .of pss_nil fun pv ι σ H δ g D rl sl w => w ι _ H .refl rl sl
theorem s_one (h : AS X kc W st as) : ASs X kc W [st] as := pss_one h
theorem s_cons (h1 : AS X kc W st as) (h2 : ASs X kc W sts bs) : ASs X kc W (st :: sts) (sSeq as bs) := .of (pss_cons h1 h2) fun pv ι σ H δ g D rl sl w => by
  refine ⟨pv, ι, δ, g, rl, sl, ?_⟩
  have w' : WS (Kp X kc pv) ι H W D ((as δ g).seq bs) := w
  cases ha : as δ g with
  | nx δ1 h1 =>
    rw [ha] at w'
    exact fun ι1 σ1 H1 e1 rl1 sl1 => ⟨pv, ι1, δ1, h1, rl1, sl1, WS.ext e1 w'⟩
  | rt d h1 => rw [ha] at w'; exact w'
  | bk δ1 h1 => rw [ha] at w'; exact w'
  | ct δ1 h1 => rw [ha] at w'; exact w'
  | er c x δ1 h1 => rw [ha] at w'; exact w'
  | bad => rw [ha] at w'; exact w'
def sBreak : ASt := fun δ h => .bk δ h
def sCont : ASt := fun δ h => .ct δ h
theorem s_pass : AS X kc W (.Pass pos) sNil := .of ps_pass fun pv ι σ H δ g D rl sl w => w ι _ H .refl rl sl
theorem s_break : AS X kc W (.Break pos) sBreak := .of ps_break fun pv ι σ H δ g D rl sl w => w ι _ H .refl rl sl
theorem s_cont : AS X kc W (.Continue pos) sCont := .of ps_continue fun pv ι σ H δ g D rl sl w => w ι _ H .refl rl sl
theorem s_doc {x : Str} {j} {p2 : Pos} : AS X kc W (.Expr (.Constant (.str x) j pos) p2) sNil := .of ps_doc fun pv ι σ H δ g D rl sl w => w ι _ H .refl rl sl
def sBad : ASt := fun _ _ => .bad
/-- what is never reached -/
theorem s_bad : AS X kc W st sBad := .of ps_never fun pv ι σ H δ g D rl sl w => w.elim
def sExp (a : AEx) : ASt := fun δ h => (a δ h).thn δ fun _ h1 => .nx δ h1
theorem s_exp (h : AE X kc W e ae) (hs : swapsWith e none pos.line X.env = pure false := by rfl) : AS X kc W (.Expr e pos) (sExp ae) := .of (ps_expr h hs) fun pv ι σ H δ g D rl sl w =>
  ⟨pv, ι, δ, g, rl, sl, (WS.thn sl w).imp fun v H1 ⟨ι1, d, h1, e1, rl1, rp1, w1⟩ => w1 ι1 _ H1 .refl rl1 (sl.ext e1)⟩
def sRet (a : AEx) : ASt := fun δ h => (a δ h).thn δ fun d h1 => .rt d h1
theorem s_ret (h : AE X kc W e ae) : AS X kc W (.Return (some e) pos) (sRet ae) := .of (ps_ret h) fun pv ι σ H δ g D rl sl w =>
  ⟨pv, ι, δ, g, rl, sl, (WS.thn sl w).imp fun v H1 ⟨ι1, d, h1, e1, rl1, rp1, w1⟩ => w1 ι1 _ H1 .refl rl1 rp1⟩
def sRetN : ASt := fun δ h => .rt .non h
theorem s_retN : AS X kc W (.Return none pos) sRetN := .of ps_retN fun pv ι σ H δ g D rl sl w => w ι _ H .refl rl rfl
def sIf (c : ATs) (a b : ASt) : ASt := fun δ h => (c δ h).thn δ fun k h1 => if k = true then a δ h1 else b δ h1
theorem WS.thnB {C : Kc} {ι : List Addr} {H : Hp} {σ : L2.St} {δ : AEnv} {r : R Bool} {f : Bool → AH → RS} {D : Ends} (sl : Slo C ι H σ δ) (w : WS C ι H W D (r.thn δ f)) :
    WG RepB C ι H σ W (fun k H' => ∃ ι' h', Ext ι H ι' H' ∧ Rel C ι' H' h' ∧ WS C ι' H' W D (f k h')) r := (WS.thn (rep := RepB) sl w).imp fun k H' ⟨ι', k', h', e, rl, rk, w'⟩ => by
  have rk' : k' = k := rk
  subst rk'
  exact ⟨ι', h', e, rl, w'⟩
theorem s_if {c : Expr} {a b : List Stmt} (hc : AT X kc W c at_) (ha : ASs X kc W a as) (hb : ASs X kc W b bs) : AS X kc W (.If c a b pos) (sIf at_ as bs) := .of (ps_if hc ha hb) fun pv ι σ H δ g D rl sl w =>
  ⟨pv, ι, δ, g, rl, sl, (WS.thnB sl w).imp fun k H1 ⟨ι1, h1, e1, rl1, w1⟩ => by
    cases k with
    | true => exact ⟨pv, ι1, δ, h1, rl1, sl.ext e1, w1⟩
    | false => exact ⟨pv, ι1, δ, h1, rl1, sl.ext e1, w1⟩⟩
/-- name = e -/
def sSet (i : Nat) (a : AEx) : ASt := fun δ h => (a δ h).thn δ fun d h1 => .nx (δ.set i (some d)) h1
theorem tAsgN_of {K : PySem.W.Frag} {kc : Str → Addr} {pv : List Addr} {i : Nat} {ι σ H δ g D} (rl : Rel ⟨K, kc, pv⟩ ι H g) (sl : Slo ⟨K, kc, pv⟩ ι H σ δ) (w : WS ⟨K, kc, pv⟩ ι H W D (sSet i ae δ g)) : tAsg (teA K kc W ae) (gName i) D σ H :=
  ⟨pv, ι, δ, g, rl, sl, (WS.thn sl w).imp fun v H1 ⟨ι1, d, h1, e1, rl1, rp1, w1⟩ => w1 ι1 _ H1 .refl rl1 ((sl.ext e1).set i rp1)⟩
theorem s_set {i : Nat} {x : Str} {pos' : Pos} (hN : X.N.Nodup) (hi : X.N[i]? = some x) (hx : Loc X.env.scope x) (he : AE X kc W e ae) (hs : swapsWith e (some (.Name x pos')) pos.line X.env = pure false := by rfl) (hf : X.fn x = true ∨ X.env.scope.names.lookup x = some .local := by first | exact .inl rfl | exact .inr rfl | assumption) :
    AS X kc W (.Assign [.Name x pos'] e pos) (sSet i ae) := .of (ps_set hN hi hx he hs hf) fun pv ι σ H δ g D rl sl w => tAsgN_of rl sl w
def R.toS (r : R AEnv) : RS := match r with
  | .ok δ h => .nx δ h
  | _ => .bad
/-- target = e -/
def sAsg (a : AEx) (g : ATg) : ASt := fun δ h => (a δ h).thn δ fun d h1 => (g d δ h1).toS
theorem WT.of {C : Kc} {ι : List Addr} {H : Hp} {D : Ends} {r : R AEnv} (w : WS C ι H W D r.toS) : WT C ι H D.nx r := by
  cases r with
  | ok δ h => exact w
  | er c x h => exact w
  | bad => exact w
theorem s_asg {ag : ATg} (he : AE X kc W e ae) (hg : AG X kc tg ag) (hs : swapsWithSole [tg] e pos.line X.env = pure false := by rfl) (hw : swappedStores [tg] e X.env = pure none := by rfl) (h1 : (assignEach [tg] X.env).map (·.2) = [assign tg X.env] := by rfl) :
    AS X kc W (.Assign [tg] e pos) (sAsg ae ag) := .of (ps_asg he hg hs hw h1) fun pv ι σ H δ g D rl sl w =>
  ⟨pv, ι, δ, g, rl, sl, (WS.thn sl w).imp fun v H1 ⟨ι1, d, h1, e1, rl1, rp1, w1⟩ => ⟨pv, ι1, d, δ, h1, rl1, sl.ext e1, rp1, WT.of w1⟩⟩
end
end Mr
namespace Mr
open PySem PySem.Spec PyProof.Rows L2 Aq
/-! ### fields -/
def lkD (f : Str) : List Str → List D → Option D
  | g :: fs, d :: ds => if f = g then some d else lkD f fs ds
  | _, _ => none
theorem lk_rep {C : Kc} {ι : List Addr} {H : Hp} {f : Str} : ∀ {fs : List Str} {ds : List D} {vs : List V} {d : D}, RepL C ι H ds vs → lkD f fs ds = some d → ∃ v, (fs.zip vs).lookup f = some v ∧ RepV C ι H d v
  | [], _, _, _, _, e => by simp [lkD] at e
  | g :: fs, [], _, _, _, e => by simp [lkD] at e
  | g :: fs, x :: ds, vs, d, r, e => by
    obtain ⟨v, ws, rfl, h2, h3⟩ := (show ∃ v ws, vs = v :: ws ∧ RepV C ι H x v ∧ RepL C ι H ds ws from r)
    have e' : (if f = g then some x else lkD f fs ds) = some d := e
    by_cases hg : f = g
    · rw [if_pos hg] at e'
      cases e'
      refine ⟨v, ?_, h2⟩
      show List.lookup f ((g, v) :: fs.zip ws) = _
      have hb : (f == g) = true := beq_iff_eq.mpr hg
      simp only [List.lookup, hb]
    · rw [if_neg hg] at e'
      obtain ⟨u, hu, ru⟩ := lk_rep h3 e'
      refine ⟨u, ?_, ru⟩
      show List.lookup f ((g, v) :: fs.zip ws) = _
      have hb : (f == g) = false := beq_eq_false_iff_ne.mpr hg
      simp only [List.lookup, hb]
      exact hu
theorem lk_none {f : Str} : ∀ {fs : List Str} {vs : List V}, f ∉ fs → (fs.zip vs).lookup f = none
  | [], _, _ => by simp
  | g :: fs, [], _ => by simp
  | g :: fs, v :: vs, h => by
    show List.lookup f ((g, v) :: fs.zip vs) = _
    have hb : (f == g) = false := beq_eq_false_iff_ne.mpr fun e => h (by rw [e]; exact List.mem_cons_self)
    simp only [List.lookup, hb]
    exact lk_none fun m => h (List.mem_cons_of_mem _ m)
def ptF (f : Str) : List Str → List Str
  | [] => [f]
  | g :: fs => if g = f then g :: fs else g :: ptF f fs
def ptD (f : Str) (d : D) : List Str → List D → List D
  | g :: fs, x :: ds => if g = f then d :: ds else x :: ptD f d fs ds
  | _, _ => [d]
def ptV (f : Str) (d : V) : List Str → List V → List V
  | g :: fs, x :: ds => if g = f then d :: ds else x :: ptV f d fs ds
  | _, _ => [d]
theorem pt_rep {C : Kc} {ι : List Addr} {H : Hp} {f : Str} {d : D} {v : V} (rd : RepV C ι H d v) : ∀ {fs : List Str} {ds : List D} {vs : List V}, RepL C ι H ds vs → RepL C ι H (ptD f d fs ds) (ptV f v fs vs)
  | [], _, _, _ => .one rd
  | g :: fs, [], vs, r => by
    rw [show vs = [] from r]
    exact .one rd
  | g :: fs, x :: ds, vs, r => by
    obtain ⟨u, ws, rfl, h2, h3⟩ := (show ∃ v ws, vs = v :: ws ∧ RepV C ι H x v ∧ RepL C ι H ds ws from r)
    show RepL C ι H (if g = f then d :: ds else x :: ptD f d fs ds) (if g = f then v :: ws else u :: ptV f v fs ws)
    by_cases hg : g = f
    · rw [if_pos hg, if_pos hg]
      exact .cons rd h3
    · rw [if_neg hg, if_neg hg]
      exact .cons h2 (pt_rep rd h3)
theorem pt_zip {f : Str} {v : V} : ∀ {fs : List Str} {vs : List V}, fs.length = vs.length → putF f v (fs.zip vs) = (ptF f fs).zip (ptV f v fs vs)
  | [], [], _ => rfl
  | g :: fs, u :: vs, h => by
    show (if g = f then (g, v) :: fs.zip vs else (g, u) :: putF f v (fs.zip vs)) = (if g = f then g :: fs else g :: ptF f fs).zip (if g = f then v :: vs else u :: ptV f v fs vs)
    by_cases hg : g = f
    · rw [if_pos hg, if_pos hg, if_pos hg]
      rfl
    · rw [if_neg hg, if_neg hg, if_neg hg, pt_zip (by simpa using h)]
      rfl
theorem pt_len {f : Str} {v : V} : ∀ {fs : List Str} {vs : List V}, fs.length = vs.length → (ptF f fs).length = (ptV f v fs vs).length ∧ (ptF f fs).length ≤ fs.length + 1
  | [], [], _ => ⟨rfl, Nat.le_refl _⟩
  | g :: fs, u :: vs, h => by
    show (if g = f then g :: fs else g :: ptF f fs).length = (if g = f then v :: vs else u :: ptV f v fs vs).length ∧ (if g = f then g :: fs else g :: ptF f fs).length ≤ _
    by_cases hg : g = f
    · rw [if_pos hg, if_pos hg]
      exact ⟨by simpa using h, Nat.le_succ _⟩
    · obtain ⟨i1, i2⟩ := pt_len (f := f) (v := v) (fs := fs) (vs := vs) (by simpa using h)
      rw [if_neg hg, if_neg hg]
      exact ⟨by rw [List.length_cons, List.length_cons, i1], by rw [List.length_cons, List.length_cons]; omega⟩
/-- an instance: its class, its fields -/
def insOf (h : AH) : D → Option (Str × List Str × List D)
  | .obj c fs ds => some (c, fs, ds)
  | .ref n => match h[n]? with
    | some (.ins c fs ds) => some (c, fs, ds)
    | _ => none
  | _ => none
theorem ins_of {C : Kc} {ι : List Addr} {H : Hp} {h : AH} {d : D} {v : V} {c : Str} {fs : List Str} {ds : List D} (rl : Rel C ι H h) (r : RepV C ι H d v) (e : insOf h d = some (c, fs, ds)) : ∃ a dx vs, v = .ref a ∧ H a = some (.ins (C.kc c) dx (fs.zip vs)) ∧ fs.length = vs.length ∧ fs.length < 1000 ∧ RepL C ι H ds vs := by
  cases d with
  | obj c' fs' ds' =>
    cases (show some (c', fs', ds') = some (c, fs, ds) from e)
    obtain ⟨a, dx, vs, h1, h2, h3, h4, h5, h6⟩ := r.obj
    exact ⟨a, dx, vs, h1, h2, h4, h5, h6⟩
  | ref n =>
    have e' : (match h[n]? with
      | some (.ins c fs ds) => some (c, fs, ds)
      | _ => none) = some (c, fs, ds) := e
    split at e'
    · rename_i c' fs' ds' hc
      cases e'
      obtain ⟨a, h1, _, dx, vs, h2, h3, h4, h5⟩ := rl.at r hc
      exact ⟨a, dx, vs, h1, h2, h3, h4, h5⟩
    · cases e'
  | _ => cases e
/-- what is known of classes: these fields are no attributes of theirs -/
def FldOk (K : PySem.W.Frag) (kc : Str → Addr) (cs : List Str) (f : Str) : Prop := ∀ c ∈ cs, Cls K (kc c) ∧ NoAttr K (kc c) f
section
variable {X : Cx} {kc : Str → Addr} {W : WX} {e o value : Expr} {f : Str} {ae ao av : AEx} {pos pos' : Pos} {cs : List Str}
def aFld (cs : List Str) (f : Str) (a : AEx) : AEx := fun δ h => (a δ h).bind fun x h1 => match insOf h1 x with
  | some (c, fs, ds) => if c ∈ cs then match lkD f fs ds with
    | some d => .ok d h1
    | none => .bad
    else .bad
  | none => .bad
theorem a_fld (ho : FldOk X.K kc cs f) (he : AE X kc W e ae) (hb : attributeBase e f X.env (eval e X.env) = eval e X.env) : AE X kc W (.Attribute e f pos) (aFld cs f ae) := .of (pe_fld he hb) fun pv ι σ H δ g Q rl sl w =>
  ⟨pv, ι, δ, g, rl, sl, (WG.bind w).imp fun v H1 hx => by
    obtain ⟨ι1, d, h1, e1, rl1, rp1, w1⟩ := hx
    split at w1
    · rename_i c fs ds hi
      split at w1
      · rename_i hc
        split at w1
        · rename_i d' hd
          obtain ⟨a, dx, vs, rfl, h2, h3, h4, h5⟩ := ins_of rl1 rp1 hi
          obtain ⟨u, hu, ru⟩ := lk_rep h5 hd
          exact ⟨a, kc c, dx, _, u, rfl, h2, (ho c hc).1, (ho c hc).2, hu, w1 ι1 _ H1 .refl rl1 ru⟩
        · exact w1.elim
      · exact w1.elim
    · exact w1.elim⟩
/-- o.f = value; o a cell -/
def sFldA (cs : List Str) (f : Str) (ao av : AEx) : ASt := fun δ h => (av δ h).thn δ fun y h1 => (ao δ h1).thn δ fun x h2 => match x with
  | .ref n => match h2[n]? with
    | some (.ins c fs ds) => if c ∈ cs ∧ fs.length < 900 then .nx δ (h2.set n (.ins c (ptF f fs) (ptD f y fs ds))) else .bad
    | _ => .bad
  | _ => .bad
theorem s_fld (hk : FldOk X.K kc cs f) (ho : AE X kc W o ao) (hv : AE X kc W value av) (hs : swapsWith value (some (.Attribute o f pos')) pos.line X.env = pure false) : AS X kc W (.Assign [.Attribute o f pos'] value pos) (sFldA cs f ao av) :=
  .of (ps_fld ho hv hs) fun pv ι σ H δ g D rl sl w => by
  refine ⟨pv, ι, δ, g, rl, sl, (WS.thn sl w).imp fun y H1 hy => ?_⟩
  obtain ⟨ι1, d1, h1, e1, rl1, rp1, w1⟩ := hy
  refine ⟨pv, ι1, δ, h1, rl1, sl.ext e1, (WS.thn (sl.ext e1) w1).imp fun x H2 hx => ?_⟩
  obtain ⟨ι2, d2, h2, e2, rl2, rp2, w2⟩ := hx
  split at w2
  · rename_i n
    split at w2
    · rename_i c fs ds hc
      split at w2
      · rename_i hcs
        obtain ⟨a, rfl, ha, dx, vs, h3, h4, h5, h6⟩ := rl2.at rp2 hc
        have h7 : fs.length < 1000 := Nat.lt_trans hcs.2 (by decide)
        refine ⟨a, kc c, dx, _, rfl, h3, (hk c hcs.1).1, (hk c hcs.1).2, by rw [List.length_zip, ← h4, Nat.min_self]; exact h7, ?_⟩
        have en := ext_set rl2 ha (.ins (kc c) dx (putF f y (fs.zip vs)))
        obtain ⟨l1, l2⟩ := pt_len (f := f) (v := y) h4
        refine w2 ι2 _ _ en (rl2.set ha ⟨dx, ptV f y fs vs, ?_, l1, by omega, ?_⟩) ((sl.ext (e1.trans e2)).ext en)
        · rw [upd_same, pt_zip h4]
        · exact (pt_rep (rp1.ext e2) h6).ext en
      · exact w2.elim
    · exact w2.elim
  · exact w2.elim
end
/-! ### name op= e -/
section
variable {X : Cx} {kc : Str → Addr} {W : WX} {e : Expr} {ae : AEx} {pos pos' : Pos}
def sAug (i : Nat) (f : Int → Int → Int) (a : AEx) : ASt := fun δ h => match δ[i]? with
  | some (some x) => (a δ h).thn δ fun y h1 => match x, y with
    | .int m, .int n => .nx (δ.set i (some (.int (f m n)))) h1
    | _, _ => .bad
  | _ => .bad
theorem s_aug {i : Nat} {x : Str} {op : Operator} {f : Int → Int → Int} (hN : X.N.Nodup) (hi : X.N[i]? = some x) (hx : Loc X.env.scope x) (he : AE X kc W e ae) (ho : PIp X op (ipI f)) (hf : X.fn x = true ∨ X.env.scope.names.lookup x = some .local := by first | exact .inl rfl | exact .inr rfl | assumption) :
    AS X kc W (.AugAssign (.Name x pos') op e pos) (sAug i f ae) := .of (ps_aug hN hi hx he ho hf) fun pv ι σ H δ g D rl sl w => by
  unfold sAug at w
  split at w
  · rename_i d hd
    obtain ⟨v, hv, rv⟩ := sl.val i d hd
    refine ⟨v, hv, pv, ι, δ, g, rl, sl, (WS.thn sl w).imp fun y H1 hy => ?_⟩
    obtain ⟨ι1, d1, h1, e1, rl1, rp1, w1⟩ := hy
    split at w1
    · exact ⟨_, _, rv, rp1, w1 ι1 _ H1 .refl rl1 ((sl.ext e1).set i rfl)⟩
    · exact w1.elim
  · exact w.elim
end
/-! ### for -/
open Classical in
noncomputable def forL (s : Src) (g : ATg) (b : ASt) : List D → AEnv → AH → RS
  | [], δ, h => if s.ok h then .nx δ h else .bad
  | d :: ds, δ, h => if s.ok h then match g d δ h with
    | .ok δ1 h1 => match b δ1 h1 with
      | .nx δ2 h2 => forL s g b ds δ2 h2
      | .ct δ2 h2 => forL s g b ds δ2 h2
      | .bk δ2 h2 => .nx δ2 h2
      | r => r
    | _ => .bad
    else .bad
noncomputable def sFor (src : ASrc) (g : ATg) (b : ASt) : ASt := fun δ h => (src δ h).thn δ fun s h1 => forL s g b s.items δ h1
theorem WS.thnI {C : Kc} {W : WX} {ι : List Addr} {H : Hp} {σ : L2.St} {δ : AEnv} {r : R Src} {f : Src → AH → RS} {D : Ends} (sl : Slo C ι H σ δ) (w : WS C ι H W D (r.thn δ f)) :
    WI C ι H σ W (fun J H' => ∃ ι' s h', Ext ι H ι' H' ∧ Rel C ι' H' h' ∧ IsSrc C ι' H' J s ∧ WS C ι' H' W D (f s h')) r := by
  cases r with
  | ok s h' => exact fun ι' v H' e r p => ⟨ι', s, h', e, r, p, WS.ext e w⟩
  | er c x h' => exact fun ι' cv dx H' e rl rx => w ι' σ cv dx H' e rl (sl.ext e) rx
  | bad => exact w
section
variable {X : Cx} {kc : Str → Addr} {W : WX} {tg iter : Expr} {body : List Stmt} {src : ASrc} {ag : ATg} {ab : ASt} {pos : Pos}
theorem s_for (hp : PassesOwn (model X.prog X.w) X.A X.env X.xe) (hc : X.calm = true) (hi : AI X kc W tg iter src) (hg : AG X kc tg ag) (hb : ASs X kc W body ab)
    (hs : ∀ x, foldedSetIterable iter X.env x = pure x := by intro _; rfl) : AS X kc W (.For tg iter body [] pos) (sFor src ag ab) := .of (ps_for hp hc hi hg hb hs) fun pv ι σ H δ g D rl sl w => by
  refine ⟨pv, ι, δ, g, rl, sl, ?_⟩
  have w0 := WS.thnI sl w
  cases hr : src δ g with
  | bad => rw [hr] at w0; exact w0
  | er c x h' => rw [hr] at w0; exact w0
  | ok s0 h0 =>
    rw [hr] at w0
    refine fun ι1 J H1 e1 rl1 isr => ?_
    obtain ⟨ι1', s, h1, e1', rl1', isr', w1⟩ := w0 ι1 J H1 e1 rl1 isr
    refine ⟨fun i m σ' H' => m = s.items.length - i ∧ i ≤ s.items.length ∧ ∃ ι' δ' h', Ext ι1' H1 ι' H' ∧ Rel (Kp X kc pv) ι' H' h' ∧ Slo (Kp X kc pv) ι' H' σ' δ' ∧ WS (Kp X kc pv) ι' H' W D (forL s ag ab (s.items.drop i) δ' h'), ⟨_, rfl, Nat.zero_le _, ι1', δ, h1, .refl, rl1', sl.ext e1', w1⟩, ?_⟩
    rintro i m σ' H' ⟨rfl, hle, ι', δ', h', e', rl', sl', w'⟩
    by_cases hlt : i < s.items.length
    · rw [List.drop_eq_getElem_cons hlt] at w'
      unfold forL at w'
      split at w'
      · rename_i hok
        obtain ⟨hgo, hy⟩ := isr'.go [] ι' H' h' i s.items[i] (fun _ m => by simp at m) e' rl' hok (List.getElem?_eq_getElem hlt)
        refine .inr ⟨hgo, fun σ2 H2 => ∃ ι2 δ2 h2, Ext ι1' H1 ι2 H2 ∧ Rel (Kp X kc pv) ι2 H2 h2 ∧ Slo (Kp X kc pv) ι2 H2 σ2 δ2 ∧ WS (Kp X kc pv) ι2 H2 W D (forL s ag ab (s.items.drop (i + 1)) δ2 h2), fun σ2 H2 hn => ⟨s.items.length - (i + 1), by omega, rfl, hlt, hn⟩, fun x H2 y => ?_⟩
        obtain ⟨e2, rl2, rx⟩ := hy x H2 y
        refine ⟨pv, ι', s.items[i], δ', h', rl2, sl'.ext e2, rx, ?_⟩
        have w2 := WS.ext e2 w'
        cases hgt : ag s.items[i] δ' h' with
        | bad => rw [hgt] at w2; exact w2.elim
        | er c x h3 => rw [hgt] at w2; exact w2.elim
        | ok δ3 h3 =>
          rw [hgt] at w2
          refine fun ι3 σ3 H3 e3 rl3 sl3 => ⟨pv, ι3, δ3, h3, rl3, sl3, ?_⟩
          have w3 := WS.ext e3 w2
          have e13 := (e'.trans e2).trans e3
          cases hbr : ab δ3 h3 with
          | nx δ4 h4 =>
            simp only [hbr] at w3
            exact fun ι4 σ4 H4 e4 rl4 sl4 => ⟨ι4, δ4, h4, e13.trans e4, rl4, sl4, WS.ext e4 w3⟩
          | ct δ4 h4 =>
            simp only [hbr] at w3
            exact fun ι4 σ4 H4 e4 rl4 sl4 => ⟨ι4, δ4, h4, e13.trans e4, rl4, sl4, WS.ext e4 w3⟩
          | bk δ4 h4 => simp only [hbr] at w3; exact w3
          | rt d h4 => simp only [hbr] at w3; exact w3
          | er c x δ4 h4 => simp only [hbr] at w3; exact w3
          | bad => simp only [hbr] at w3; exact w3
      · exact w'.elim
    · have hi' : i = s.items.length := by omega
      subst hi'
      rw [List.drop_length] at w'
      unfold forL at w'
      split at w'
      · rename_i hok
        exact .inl ⟨isr'.stop [] ι' H' h' (fun _ m => by simp at m) e' rl' hok, w' ι' σ' H' .refl rl' sl'⟩
      · exact w'.elim
end
end Mr
namespace Mr
open PySem PySem.Spec PyProof.Rows L2 Aq
/-! ### while -/
def whN (c : ATs) (b : ASt) : Nat → AEnv → AH → RS
  | 0, _, _ => .bad
  | n + 1, δ, h => (c δ h).thn δ fun k h1 => if k = true then match b δ h1 with
    | .nx δ2 h2 => whN c b n δ2 h2
    | .ct δ2 h2 => whN c b n δ2 h2
    | .bk δ2 h2 => .nx δ2 h2
    | r => r
    else .nx δ h1
open Classical in
/-- what comes out with turns enough -/
noncomputable def sWh (c : ATs) (b : ASt) : ASt := fun δ h => if hx : ∃ n, whN c b n δ h ≠ .bad then whN c b (Classical.choose hx) δ h else .bad
theorem whN_mono (c : ATs) (b : ASt) : ∀ (n : Nat) (δ : AEnv) (h : AH), whN c b n δ h ≠ .bad → ∀ m, n ≤ m → whN c b m δ h = whN c b n δ h
  | 0, _, _, hn => absurd rfl hn
  | n + 1, δ, h, hn => fun m hm => by
    obtain ⟨m, rfl⟩ : ∃ k, m = k + 1 := ⟨m - 1, by omega⟩
    unfold whN at hn ⊢
    cases hc : c δ h with
    | bad => rfl
    | er cc x h1 => rfl
    | ok k h1 =>
      rw [hc] at hn
      cases k with
      | false => rfl
      | true =>
        simp only [R.thn_ok, if_pos] at hn ⊢
        cases hb : b δ h1 with
        | nx δ2 h2 =>
          simp only [hb] at hn
          exact whN_mono c b n δ2 h2 hn m (by omega)
        | ct δ2 h2 =>
          simp only [hb] at hn
          exact whN_mono c b n δ2 h2 hn m (by omega)
        | bk δ2 h2 => rfl
        | rt d h2 => rfl
        | er cc x δ2 h2 => rfl
        | bad => rfl
theorem sWh_of {c : ATs} {b : ASt} {δ : AEnv} {h : AH} {n : Nat} {r : RS} (e : whN c b n δ h = r) (hr : r ≠ .bad) : sWh c b δ h = r := by
  have hx : ∃ n, whN c b n δ h ≠ .bad := ⟨n, by rw [e]; exact hr⟩
  unfold sWh
  rw [dif_pos hx]
  have h1 := Classical.choose_spec hx
  rcases Nat.le_total (Classical.choose hx) n with z | z
  · rw [← whN_mono c b _ δ h h1 n z, e]
  · rw [whN_mono c b n δ h (by rw [e]; exact hr) _ z, e]
section
variable {X : Cx} {kc : Str → Addr} {W : WX} {c : Expr} {body : List Stmt} {ac : ATs} {ab : ASt} {pos : Pos}
theorem s_while (hp : PassesOwn (model X.prog X.w) X.A X.env X.xe) (hc : AT X kc W c ac) (hb : ASs X kc W body ab) : AS X kc W (.While c body [] pos) (sWh ac ab) := .of (ps_while hp hc hb) fun pv ι σ H δ g D rl sl w => by
  unfold sWh at w
  split at w
  · rename_i hx
    refine ⟨fun m σ' H' => ∃ ι' δ' h', Ext ι H ι' H' ∧ Rel (Kp X kc pv) ι' H' h' ∧ Slo (Kp X kc pv) ι' H' σ' δ' ∧ WS (Kp X kc pv) ι' H' W D (whN ac ab m δ' h'), ⟨_, ι, δ, g, .refl, rl, sl, w⟩, ?_⟩
    rintro m σ' H' ⟨ι', δ', h', e', rl', sl', w'⟩
    cases m with
    | zero => exact w'.elim
    | succ m =>
      unfold whN at w'
      refine ⟨pv, ι', δ', h', rl', sl', (WS.thnB sl' w').imp fun k H1 hk => ?_⟩
      obtain ⟨ι1, h1, e1, rl1, w1⟩ := hk
      cases k with
      | false => exact w1 ι1 _ H1 .refl rl1 (sl'.ext e1)
      | true =>
        refine ⟨fun σ2 H2 => ∃ ι2 δ2 h2, Ext ι H ι2 H2 ∧ Rel (Kp X kc pv) ι2 H2 h2 ∧ Slo (Kp X kc pv) ι2 H2 σ2 δ2 ∧ WS (Kp X kc pv) ι2 H2 W D (whN ac ab m δ2 h2), fun σ2 H2 hn => ⟨m, Nat.lt_succ_self _, hn⟩, ?_⟩
        refine ⟨pv, ι1, δ', h1, rl1, sl'.ext e1, ?_⟩
        simp only [if_pos] at w1
        have e01 := e'.trans e1
        cases hbr : ab δ' h1 with
        | nx δ4 h4 =>
          simp only [hbr] at w1
          exact fun ι4 σ4 H4 e4 rl4 sl4 => ⟨ι4, δ4, h4, e01.trans e4, rl4, sl4, WS.ext e4 w1⟩
        | ct δ4 h4 =>
          simp only [hbr] at w1
          exact fun ι4 σ4 H4 e4 rl4 sl4 => ⟨ι4, δ4, h4, e01.trans e4, rl4, sl4, WS.ext e4 w1⟩
        | bk δ4 h4 => simp only [hbr] at w1; exact w1
        | rt d h4 => simp only [hbr] at w1; exact w1
        | er c x δ4 h4 => simp only [hbr] at w1; exact w1
        | bad => simp only [hbr] at w1; exact w1
  · exact w.elim
end
/-! ### list comprehensions -/
def wipA (δ : AEnv) : List Nat → AEnv
  | [] => δ
  | v :: vs => (wipA δ vs).set v none
theorem wip_rep {C : Kc} {ι : List Addr} {H : Hp} {σ : L2.St} {δ : AEnv} (s : Slo C ι H σ δ) : ∀ vs : List Nat, Slo C ι H (wipe σ vs) (wipA δ vs)
  | [] => s
  | v :: vs => (wip_rep s vs).off v
/-- W0: a comprehension's parts do not raise -/
abbrev W0 : WX := fun _ _ _ _ => False
open Classical in
/-- the items made so far are xs -/
noncomputable def lcL (s : Src) (g : ATg) (tt : ATs) (te : AEx) (δ0 : AEnv) : List D → List D → AH → R (List D)
  | [], xs, h => if s.ok h then .ok xs h else .bad
  | d :: ds, xs, h => if s.ok h then match g d δ0 h with
    | .ok δ1 h1 => match tt δ1 h1 with
      | .ok true h2 => match te δ1 h2 with
        | .ok y h3 => if xs.length < 1000000 then lcL s g tt te δ0 ds (xs ++ [y]) h3 else .bad
        | _ => .bad
      | .ok false h2 => lcL s g tt te δ0 ds xs h2
      | _ => .bad
    | _ => .bad
    else .bad
noncomputable def aLcR (src : ASrc) (g : ATg) (tt : ATs) (te : AEx) (vs : List Nat) : AEnv → AH → R (List D) := fun δ h => (src δ h).bind fun s h1 => lcL s g tt te (wipA δ vs) s.items [] h1
/-- the list by value -/
noncomputable def aLc (src : ASrc) (g : ATg) (tt : ATs) (te : AEx) (vs : List Nat) : AEx := fun δ h => (aLcR src g tt te vs δ h).bind fun ds h1 => .ok (.vl ds) h1
/-- the list as a new cell -/
noncomputable def aLcC (src : ASrc) (g : ATg) (tt : ATs) (te : AEx) (vs : List Nat) : AEx := fun δ h => (aLcR src g tt te vs δ h).bind fun ds h1 => .ok (.ref h1.length) (h1 ++ [.lst ds])
theorem CellR.more {C : Kc} {ι : List Addr} {H : Hp} {p a : Addr} (np : H p = none) {c : Cell} (h : CellR C ι H a c) : CellR (C.more p) ι H a c := by
  cases c with
  | lst ds => obtain ⟨vs, h1, h2, h3⟩ := h; exact ⟨vs, h1, h2, h3.more np⟩
  | ro ds => obtain ⟨vs, o, h1, h2, h3⟩ := h; exact ⟨vs, o, h1, h2, h3.more np⟩
  | ins c fs ds => obtain ⟨dx, vs, h1, h2, h2', h3⟩ := h; exact ⟨dx, vs, h1, h2, h2', h3.more np⟩
  | dic ks ds => exact h
  | dead => exact h
theorem CellR.less {C : Kc} {ι : List Addr} {H : Hp} {p a : Addr} {c : Cell} (h : CellR (C.more p) ι H a c) : CellR C ι H a c := by
  cases c with
  | lst ds => obtain ⟨vs, h1, h2, h3⟩ := h; exact ⟨vs, h1, h2, h3.less⟩
  | ro ds => obtain ⟨vs, o, h1, h2, h3⟩ := h; exact ⟨vs, o, h1, h2, h3.less⟩
  | ins c fs ds => obtain ⟨dx, vs, h1, h2, h2', h3⟩ := h; exact ⟨dx, vs, h1, h2, h2', h3.less⟩
  | dic ks ds => exact h
  | dead => exact h
/-- the new private thing -/
theorem Rel.priv_new {C : Kc} {ι : List Addr} {H : Hp} {h : AH} (r : Rel C ι H h) {p : Addr} (np : H p = none) (o : HO) : Rel (C.more p) ι (upd H p o) h := by
  have en := ext_new r np o
  have r' := r.new np o
  have off := r.fresh np
  refine ⟨r'.len, r'.nd, fun a m => ?_, fun n c e => ?_⟩
  · rcases List.mem_cons.mp m with rfl | m
    · exact ⟨off.1, o, upd_same⟩
    · exact r'.priv a m
  · obtain ⟨a, ha, hc⟩ := r.cell n c e
    obtain ⟨u, hu⟩ := r.has (List.mem_of_getElem? ha)
    refine ⟨a, ha, CellR.exw (H := H) ⟨List.prefix_refl _, fun _ m n => absurd m n, fun b u k e => ?_⟩ (by rw [upd_ne (ne_of_none hu np)]) (hc.more np)⟩
    rw [upd_ne (ne_of_none e np)]
    exact e
/-- a private thing is written over: all else is as it was -/
theorem exw_priv {C : Kc} {ι : List Addr} {H : Hp} {p : Addr} (hp : p ∈ C.pv) (o : HO) : ExW C ι H ι (upd H p o) := ⟨List.prefix_refl _, fun _ m n => absurd m n, fun b u k e => by
  rw [upd_ne (fun z => k.2 (by rw [z]; exact hp))]
  exact e⟩
theorem Rel.priv_set {C : Kc} {ι : List Addr} {H : Hp} {h : AH} (r : Rel C ι H h) {p : Addr} (hp : p ∈ C.pv) (o : HO) : Rel C ι (upd H p o) h := by
  obtain ⟨np, u, hu⟩ := r.priv p hp
  refine ⟨r.len, r.nd, fun a m => ?_, fun n c e => ?_⟩
  · obtain ⟨na, v, hv⟩ := r.priv a m
    by_cases ha : a = p
    · rw [ha]
      exact ⟨np, o, upd_same⟩
    · exact ⟨na, v, by rw [upd_ne ha]; exact hv⟩
  · obtain ⟨a, ha, hc⟩ := r.cell n c e
    exact ⟨a, ha, hc.exw (exw_priv hp o) (by rw [upd_ne fun z => np (by rw [← z]; exact List.mem_of_getElem? ha)])⟩
theorem Rel.priv_drop {C : Kc} {ι : List Addr} {H : Hp} {h : AH} {p : Addr} (r : Rel (C.more p) ι H h) : Rel C ι H h := ⟨r.len, r.nd, fun a m => r.priv a (List.mem_cons_of_mem _ m), fun n c e => by
  obtain ⟨a, ha, hc⟩ := r.cell n c e
  exact ⟨a, ha, hc.less⟩⟩
theorem Slo.exw {C : Kc} {ι ι' : List Addr} {H H' : Hp} {σ : L2.St} {δ : AEnv} (e : ExW C ι H ι' H') (s : Slo C ι H σ δ) : Slo C ι' H' σ δ := ⟨s.len, fun i d h => by
  obtain ⟨v, h1, h2⟩ := s.val i d h
  exact ⟨v, h1, h2.exw e⟩⟩
end Mr
namespace Mr
open PySem PySem.Spec PyProof.Rows L2 Aq
mutual
theorem RepV.pub {C : Kc} {ι : List Addr} {H : Hp} {p : Addr} : ∀ {d : D} {v : V}, RepV (C.more p) ι H d v → RepV C (ι ++ [p]) H d v
  | .non, _, h => h
  | .bl _, _, h => h
  | .int _, _, h => h
  | .str _, _, h => h
  | .tup ds, v, h => by
    obtain ⟨a, vs, h1, h2, h2', h3, h4⟩ := h.tup
    exact ⟨a, vs, h1, h2, ⟨fun m => (List.mem_append.mp m).elim h2'.1 fun z => h2'.2 (by rw [List.mem_singleton.mp z]; exact List.mem_cons_self), fun m => h2'.2 (List.mem_cons_of_mem _ m)⟩, h3, RepL.pub h4⟩
  | .vl ds, v, h => by
    obtain ⟨a, vs, h1, h2, h2', h3, h4⟩ := h.vl
    exact ⟨a, vs, h1, h2, ⟨fun m => (List.mem_append.mp m).elim h2'.1 fun z => h2'.2 (by rw [List.mem_singleton.mp z]; exact List.mem_cons_self), fun m => h2'.2 (List.mem_cons_of_mem _ m)⟩, h3, RepL.pub h4⟩
  | .obj c fs ds, v, h => by
    obtain ⟨a, dx, vs, h1, h2, h3, h4, h5, h6⟩ := h.obj
    exact ⟨a, dx, vs, h1, h2, ⟨fun m => (List.mem_append.mp m).elim h3.1 fun z => h3.2 (by rw [List.mem_singleton.mp z]; exact List.mem_cons_self), fun m => h3.2 (List.mem_cons_of_mem _ m)⟩, h4, h5, RepL.pub h6⟩
  | .ref n, v, h => by
    obtain ⟨a, h1, h2⟩ := h.ref
    exact ⟨a, pre_get (List.prefix_append _ _) h1, h2⟩
theorem RepL.pub {C : Kc} {ι : List Addr} {H : Hp} {p : Addr} : ∀ {ds : List D} {vs : List V}, RepL (C.more p) ι H ds vs → RepL C (ι ++ [p]) H ds vs
  | [], _, h => h
  | d :: ds, vs, h => by
    obtain ⟨v, ws, h1, h2, h3⟩ := (show ∃ v ws, vs = v :: ws ∧ RepV (C.more p) ι H d v ∧ RepL (C.more p) ι H ds ws from h)
    exact ⟨v, ws, h1, RepV.pub h2, RepL.pub h3⟩
end
theorem Rel.priv_push {C : Kc} {ι : List Addr} {H : Hp} {h : AH} {p : Addr} (r : Rel (C.more p) ι H h) {vs : List V} {ds : List D} (hp : H p = some (.lst vs)) (hl : vs.length ≤ sizeLine) (rp : RepL (C.more p) ι H ds vs) (hpv : p ∉ C.pv) : Rel C (ι ++ [p]) H (h ++ [.lst ds]) := by
  have np := (r.priv p List.mem_cons_self).1
  refine ⟨by rw [List.length_append, List.length_append, r.len]; rfl, ?_, fun a m => ?_, fun n c e => ?_⟩
  · rw [List.nodup_append]
    exact ⟨r.nd, by simp, fun a ha b hb z => np (by rw [List.mem_singleton.mp hb] at z; rw [← z]; exact ha)⟩
  · obtain ⟨na, o, ho⟩ := r.priv a (List.mem_cons_of_mem _ m)
    refine ⟨fun m' => (List.mem_append.mp m').elim na fun z => hpv (by rw [← List.mem_singleton.mp z]; exact m), o, ho⟩
  · by_cases hn : n < h.length
    · rw [List.getElem?_append_left hn] at e
      obtain ⟨a, ha, hc⟩ := r.cell n c e
      refine ⟨a, pre_get (List.prefix_append _ _) ha, ?_⟩
      cases c with
      | lst ds => obtain ⟨vs, h1, h2, h3⟩ := hc; exact ⟨vs, h1, h2, h3.pub⟩
      | ro ds => obtain ⟨vs, o, h1, h2, h3⟩ := hc; exact ⟨vs, o, h1, h2, h3.pub⟩
      | ins c fs ds => obtain ⟨dx, vs, h1, h2, h2', h3⟩ := hc; exact ⟨dx, vs, h1, h2, h2', h3.pub⟩
      | dic ks ds => exact hc
      | dead => exact hc
    · rw [List.getElem?_append_right (by omega)] at e
      have hz : n - h.length = 0 := by
        have := (List.getElem?_eq_some_iff.mp e).1
        simp at this
        omega
      rw [hz] at e
      cases (show some (Cell.lst ds) = some c from e)
      refine ⟨p, ?_, vs, hp, hl, rp.pub⟩
      rw [List.getElem?_append_right (by rw [r.len]; omega), r.len, hz]
      rfl
/-! targets of a comprehension: names of its own alone -/
theorem wipe_out {σ : L2.St} {i : Nat} {x : Option V} : ∀ {vs : List Nat}, i ∉ vs → wipe (σ.set i x) vs = (wipe σ vs).set i x
  | [], _ => rfl
  | v :: vs, h => by
    unfold wipe
    rw [wipe_out (fun m => h (List.mem_cons_of_mem _ m)), List.set_comm _ _ (fun e => h (by rw [e]; exact List.mem_cons_self))]
theorem wipe_in {σ : L2.St} {i : Nat} {x : Option V} : ∀ {vs : List Nat}, i ∈ vs → wipe (σ.set i x) vs = wipe σ vs
  | v :: vs, h => by
    unfold wipe
    by_cases hm : i ∈ vs
    · rw [wipe_in hm]
    · have e : i = v := (List.mem_cons.mp h).elim id fun z => absurd z hm
      subst e
      rw [wipe_out hm, List.set_set]
theorem wipe_wipe (σ : L2.St) : ∀ vs : List Nat, wipe (wipe σ vs) vs = wipe σ vs
  | [] => rfl
  | v :: vs => by
    have ih := wipe_wipe σ vs
    show (wipe ((wipe σ vs).set v none) vs).set v none = (wipe σ vs).set v none
    by_cases hm : v ∈ vs
    · rw [wipe_in hm, ih]
    · rw [wipe_out hm, ih, List.set_set]
def tgcA (K : PySem.W.Frag) (kc : Str → Addr) (vs : List Nat) (ag : ATg) : TG := fun v σ H Q => ∃ pv, let C : Kc := ⟨K, kc, pv⟩; ∃ ι d δ h, Rel C ι H h ∧ Slo C ι H σ δ ∧ RepV C ι H d v ∧ WT C ι H (fun σ' H' => wipe σ' vs = wipe σ vs → Q σ' H') (ag d δ h)
def tgscA (K : PySem.W.Frag) (kc : Str → Addr) (vs : List Nat) (ag : ATgs) : TGs := fun us σ H Q => ∃ pv, let C : Kc := ⟨K, kc, pv⟩; ∃ ι ds δ h, Rel C ι H h ∧ Slo C ι H σ δ ∧ RepL C ι H ds us ∧ WT C ι H (fun σ' H' => wipe σ' vs = wipe σ vs → Q σ' H') (ag ds δ h)
abbrev AGc (X : Cx) (kc : Str → Addr) (vs : List Nat) (tg : Expr) (ag : ATg) : Prop := PG X tg (tgcA X.K kc vs ag)
abbrev AGsc (X : Cx) (kc : Str → Addr) (vs : List Nat) (tgs : List Expr) (ag : ATgs) : Prop := PGs X tgs (tgscA X.K kc vs ag)
section
variable {X : Cx} {kc : Str → Addr} {W : WX} {tg e : Expr} {es : List Expr} {pos : Pos} {vs : List Nat}
theorem gc_nam {i : Nat} (h : PG X tg (gName i)) (hi : i ∈ vs) : AGc X kc vs tg (gNam i) := ⟨fun pins s σ H v u Q I r ⟨pv, ι, d, δ, g, rl, sl, rp, w⟩ => h.run pins s σ H v u Q I r (w ι _ H .refl rl (sl.set i rp) (wipe_in hi))⟩
theorem gsc_nil : AGsc X kc vs [] gNilA := ⟨fun pins s σ H v u Q I r ⟨pv, ι, d, δ, g, rl, sl, rp, w⟩ => pgs_nil.run pins s σ H v u Q I r (by
  unfold gNilA at w
  split at w
  · exact ⟨rp, w ι _ H .refl rl sl rfl⟩
  · exact w.elim)⟩
theorem gsc_cons {a : ATg} {r : ATgs} (ha : AGc X kc vs e a) (hr : AGsc X kc vs es r) (hs : (assignEach (e :: es) X.env).map (·.2) = assign e X.env :: (assignEach es X.env).map (·.2) := by rfl) : AGsc X kc vs (e :: es) (gConsA a r) :=
  ⟨fun pins s σ H us uu Q I rr ⟨pv, ι, ds, δ, g, rl, sl, rp, w⟩ => (pgs_cons ha hr hs).run pins s σ H us uu Q I rr (by
  unfold gConsA at w
  split at w
  · rename_i d ds
    obtain ⟨v, ws, rfl, h2, h3⟩ := (show ∃ v ws, us = v :: ws ∧ RepV (Kp X kc pv) ι H d v ∧ RepL (Kp X kc pv) ι H ds ws from rp)
    refine ⟨v, ws, rfl, pv, ι, d, δ, g, rl, sl, h2, (WT.bind w).imp fun σ1 H1 hh hw1 => ?_⟩
    obtain ⟨ι1, δ1, h1, e1, rl1, sl1, w1⟩ := hh
    exact ⟨pv, ι1, ds, δ1, h1, rl1, sl1, h3.ext e1, w1.imp fun σ2 H2 q hw2 => q (hw2.trans hw1)⟩
  · exact w.elim)⟩
theorem gc_un {r : ATgs} {k n : Nat} (hc : X.calm = true) (h : AGsc X kc vs es r) (hn : (assignEach es X.env).length = n := by rfl) (hst : (assignEach es X.env).findIdx? (·.1) = none := by rfl) : AGc X kc vs (.Tuple es k pos) (gUn n r) :=
  ⟨fun pins s σ H us uu Q I rr ⟨pv, ι, d, δ, g, rl, sl, rp, w⟩ => (pg_seq hc h hn hst).run pins s σ H us uu Q I rr (by
  unfold gUn at w
  split at w
  · rename_i ds hd
    split at w
    · rename_i hl
      obtain ⟨a, ws, rfl, hs, _, rv⟩ := seq_of rl rp hd
      exact ⟨a, ws, rfl, seq_sq hs, by rw [← rv.length]; exact hl, pv, ι, ds, δ, g, rl, sl, rv, w⟩
    · exact w.elim
  · exact w.elim)⟩
/-! a clause's tests -/
abbrev AIf (X : Cx) (kc : Str → Addr) (W : WX) (ifs : List Expr) (at_ : ATs) : Prop := PTs X ifs (ttA X.K kc W at_)
def aYes : ATs := fun _ h => .ok true h
theorem if_nil : AIf X kc W [] aYes := ⟨fun pins s σ H Q I ⟨pv, ι, δ, g, rl, sl, w⟩ => pts_nil.run pins s σ H Q I (w ι _ H .refl rl rfl)⟩
theorem if_one {c : Expr} {t : ATs} (h : AT X kc W c t) : AIf X kc W [c] t := pts_one h
end
theorem WG.toI {C : Kc} {W : WX} {ι : List Addr} {H : Hp} {σ : L2.St} {α β : Type} {rep : Rp α β} {Q : β → Hp → Prop} {r : R Src} {f : Src → AH → R α} (w : WG rep C ι H σ W Q (r.bind f)) :
    WI C ι H σ W (fun J H' => ∃ ι' s h', Ext ι H ι' H' ∧ Rel C ι' H' h' ∧ IsSrc C ι' H' J s ∧ WG rep C ι' H' σ W Q (f s h')) r := by
  cases r with
  | ok s h' => exact fun ι' v H' e r p => ⟨ι', s, h', e, r, p, WG.ext e w⟩
  | er c x h' => exact w
  | bad => exact w
/-- what is wanted of the finished list -/
def WL (C : Kc) (ι : List Addr) (H : Hp) (L : Addr) (Q : Hp → Prop) : R (List D) → Prop
  | .ok ds h' => ∀ ι' H' vs, Ext ι H ι' H' → Rel (C.more L) ι' H' h' → H' L = some (.lst vs) → vs.length ≤ sizeLine → RepL (C.more L) ι' H' ds vs → Q H'
  | .er .. => False
  | .bad => False
theorem lc_main {X : Cx} {kc : Str → Addr} {pv : List Addr} {ag : ATg} {at_ : ATs} {ae : AEx} {vs : List Nat} {σ : L2.St} {δ : AEnv} {ι1 : List Addr} {H1 : Hp} {h1 : AH} {J : It} {s : Src} {Q : VK} {L : Addr} (nL : H1 L = none)
    (rl1 : Rel (Kp X kc pv) ι1 H1 h1) (sl1 : Slo (Kp X kc pv) ι1 H1 σ δ) (isr : IsSrc (Kp X kc pv) ι1 H1 J s) (w : WL (Kp X kc pv) ι1 H1 L (fun H' => Q (.ref L) H') (lcL s ag at_ ae (wipA δ vs) s.items [] h1)) :
    ∃ W : Nat → Nat → Hp → Prop, (∃ m, W 0 m (upd H1 L (.lst []))) ∧ ∀ i m H, W i m H → (J.stop i H ∧ Q (.ref L) H) ∨ (J.go i H ∧ ∃ Nx : Hp → Prop, (∀ H', Nx H' → ∃ m', m' < m ∧ W (i + 1) m' H') ∧ ∀ x H', J.yld i H x H' → tgcA X.K kc vs ag x (wipe σ vs) H' fun σ2 H2 => wipe σ2 vs = wipe σ vs ∧ ttA X.K kc W0 at_ σ2 H2 fun b H3 =>
      if b = true then teA X.K kc W0 ae σ2 H3 fun y H4 => ∃ acc, H4 L = some (.lst acc) ∧ acc.length < sizeLine ∧ Nx (upd H4 L (.lst (acc ++ [y]))) else Nx H3) := by
  let C := Kp X kc pv
  let Inv : Nat → Hp → Prop := fun i H' => ∃ ι' h' xs us, Ext ι1 H1 ι' H' ∧ Rel (C.more L) ι' H' h' ∧ H' L = some (.lst us) ∧ us.length ≤ 1000000 ∧ RepL (C.more L) ι' H' xs us ∧ Slo (C.more L) ι' H' (wipe σ vs) (wipA δ vs) ∧ WL C ι1 H1 L (fun H' => Q (.ref L) H') (lcL s ag at_ ae (wipA δ vs) (s.items.drop i) xs h')
  have ext0 : Ext ι1 H1 ι1 (upd H1 L (.lst [])) := ext_new rl1 nL _
  have slo0 : Slo (C.more L) ι1 (upd H1 L (.lst [])) (wipe σ vs) (wipA δ vs) := by
    have a := wip_rep (sl1.ext ext0) vs
    have b := wip_rep sl1 vs
    refine ⟨a.len, fun i d hd => ?_⟩
    obtain ⟨v, hv, rv⟩ := b.val i d hd
    refine ⟨v, hv, RepV.exw (C := C.more L) (ι := ι1) (H := H1) ⟨List.prefix_refl _, fun _ m n => absurd m n, fun c u k e => ?_⟩ (rv.more nL)⟩
    rw [upd_ne (ne_of_none e nL)]
    exact e
  refine ⟨fun i m H' => m = s.items.length - i ∧ i ≤ s.items.length ∧ Inv i H', ⟨_, rfl, Nat.zero_le _, ι1, h1, [], [], ext0, rl1.priv_new nL _, upd_same, Nat.zero_le _, rfl, slo0, w⟩, ?_⟩
  rintro i m H' ⟨rfl, hle, ι', h', xs, us, e', rl', hD, hl, rx, sl', w'⟩
  have hq : ∀ p ∈ [L], H1 p = none := fun p m => by rw [List.mem_singleton.mp m]; exact nL
  have hxu := rx.length
  by_cases hlt : i < s.items.length
  · rw [List.drop_eq_getElem_cons hlt] at w'
    unfold lcL at w'
    split at w'
    · rename_i hok
      obtain ⟨hgo, hy⟩ := isr.go [L] ι' H' h' i s.items[i] hq e' rl' hok (List.getElem?_eq_getElem hlt)
      refine .inr ⟨hgo, Inv (i + 1), fun H2 hn => ⟨s.items.length - (i + 1), by omega, rfl, hlt, hn⟩, fun x H2 y => ?_⟩
      obtain ⟨e2, rl2, rx2⟩ := hy x H2 y
      have dn : L ∉ ι' := (rl'.priv L List.mem_cons_self).1
      have hD2 := e2.keep _ _ dn hD
      refine ⟨L :: pv, ι', s.items[i], wipA δ vs, h', rl2, sl'.ext e2, rx2, ?_⟩
      split at w'
      · rename_i δ1 h3 hg
        rw [hg]
        refine fun ι3 σ3 H3 e3 rl3 sl3 hw3 => ⟨?_, L :: pv, ι3, δ1, h3, rl3, sl3, ?_⟩
        · rw [hw3]
          exact wipe_wipe σ vs
        have dn3 : L ∉ ι3 := (rl3.priv L List.mem_cons_self).1
        have dn2 : L ∉ ι' := dn
        have hD3 := e3.keep _ _ dn2 hD2
        have e13 := (e'.trans e2).trans e3
        split at w'
        · rename_i h4 ht
          rw [ht]
          refine fun ι4 b H4 e4 rl4 rb => ?_
          have rb' : true = b := rb
          subst rb'
          have hD4 := e4.keep _ _ dn3 hD3
          have dn4 : L ∉ ι4 := (rl4.priv L List.mem_cons_self).1
          refine ⟨L :: pv, ι4, δ1, h4, rl4, sl3.ext e4, ?_⟩
          split at w'
          · rename_i y' h5 hy5
            rw [hy5]
            refine fun ι5 y5 H5 e5 rl5 r5 => ?_
            have hD5 := e5.keep _ _ dn4 hD4
            split at w'
            · rename_i hx1
              refine ⟨us, hD5, Nat.lt_of_lt_of_le (by rw [← hxu]; exact hx1) (by decide), ?_⟩
              have ep : ExW (C.more L) ι5 H5 ι5 (upd H5 L (.lst (us ++ [y5]))) := exw_priv List.mem_cons_self _
              have e25 := ((e2.trans e3).trans e4).trans e5
              refine ⟨ι5, h5, xs ++ [y'], us ++ [y5], ?_, rl5.priv_set List.mem_cons_self _, upd_same, ?_, ?_, ?_, w'⟩
              · have e15 := (e13.trans e4).trans e5
                refine ⟨e15.pre, e15.new, fun a o n h => ?_⟩
                rw [upd_ne (ne_of_none h nL)]
                exact e15.keep a o n h
              · rw [List.length_append, ← hxu]
                show xs.length + 1 ≤ 1000000
                omega
              · exact RepL.exw ep (RepL.append (rx.ext e25) (.one r5))
              · exact (sl'.ext e25).exw ep
            · exact w'.elim
          · exact w'.elim
        · rename_i h4 ht
          rw [ht]
          refine fun ι4 b H4 e4 rl4 rb => ?_
          have rb' : false = b := rb
          subst rb'
          have hD4 := e4.keep _ _ dn3 hD3
          have e24 := (e2.trans e3).trans e4
          exact ⟨ι4, h4, xs, us, e13.trans e4, rl4, hD4, hl, rx.ext e24, sl'.ext e24, w'⟩
        · exact w'.elim
      · exact w'.elim
    · exact w'.elim
  · have hi' : i = s.items.length := by omega
    subst hi'
    rw [List.drop_length] at w'
    unfold lcL at w'
    split at w'
    · rename_i hok
      exact .inl ⟨isr.stop [L] ι' H' h' hq e' rl' hok, w' ι' H' us e' rl' hD (Nat.le_trans hl (by decide)) rx⟩
    · exact w'.elim
end Mr
namespace Mr
open PySem PySem.Spec PyProof.Rows L2 Aq
theorem R.bind_assoc {α β γ : Type} {r : R α} {f : α → AH → R β} {k : β → AH → R γ} : (r.bind f).bind k = r.bind fun a h => (f a h).bind k := by cases r <;> rfl
theorem WI.imp {C : Kc} {ι : List Addr} {H : Hp} {σ : L2.St} {W : WX} {Q Q' : It → Hp → Prop} {r : R Src} (w : WI C ι H σ W Q r) (f : ∀ v H', Q v H' → Q' v H') : WI C ι H σ W Q' r := by
  cases r with
  | ok d h' => exact fun ι' v H' e' r' p => f _ _ (w ι' v H' e' r' p)
  | er c x h' => exact w
  | bad => exact w
theorem lcL_er {s : Src} {g : ATg} {tt : ATs} {te : AEx} {δ0 : AEnv} : ∀ {ds xs : List D} {h : AH} {c : Str} {x : D} {h' : AH}, lcL s g tt te δ0 ds xs h ≠ .er c x h'
  | [], xs, h, c, x, h' => fun e => by
    unfold lcL at e
    split at e <;> cases e
  | d :: ds, xs, h, c, x, h' => fun e => by
    unfold lcL at e
    split at e
    · split at e
      · split at e
        · split at e
          · split at e
            · exact lcL_er e
            · cases e
          · cases e
        · exact lcL_er e
        · cases e
      · cases e
    · cases e
section
variable {X : Cx} {kc : Str → Addr} {W : WX} {elt tg iter : Expr} {ifs : List Expr} {scope : Scope} {own : List (Str × Nat)} {pos : Pos} {src : ASrc} {ag : ATg} {at_ : ATs} {ae : AEx}
theorem lcV_of {pv : List Addr} {ι : List Addr} {σ : L2.St} {H : Hp} {δ : AEnv} {g : AH} {Q : VK} {vs : List Nat} (rl : Rel (Kp X kc pv) ι H g) (sl : Slo (Kp X kc pv) ι H σ δ) (w : WG (RepV (Kp X kc pv)) (Kp X kc pv) ι H σ W Q (aLc src ag at_ ae vs δ g)) :
    tLc (tiA X.K kc W src) (tgcA X.K kc vs ag) (ttA X.K kc W0 at_) (teA X.K kc W0 ae) vs σ H Q := by
  refine ⟨pv, ι, δ, g, rl, sl, ?_⟩
  unfold aLc aLcR at w
  rw [R.bind_assoc] at w
  refine (WG.toI w).imp fun J H1 hx L nL => ?_
  obtain ⟨ι1, s, h1, e1, rl1, isr, w1⟩ := hx
  refine lc_main nL rl1 (sl.ext e1) isr ?_
  cases hr : lcL s ag at_ ae (wipA δ vs) s.items [] h1 with
  | ok ds h2 =>
    rw [hr] at w1
    refine fun ι' H' us e rl' hL hl rp => w1 ι' (.ref L) H' e rl'.priv_drop ⟨L, us, rfl, hL, ⟨(rl'.priv L List.mem_cons_self).1, fun m => ?_⟩, hl, rp.less⟩
    obtain ⟨_, o, ho⟩ := rl1.priv L m
    rw [nL] at ho
    cases ho
  | er c x h2 => exact absurd hr lcL_er
  | bad => rw [hr] at w1; exact w1
theorem lcC_of {pv : List Addr} {ι : List Addr} {σ : L2.St} {H : Hp} {δ : AEnv} {g : AH} {Q : VK} {vs : List Nat} (rl : Rel (Kp X kc pv) ι H g) (sl : Slo (Kp X kc pv) ι H σ δ) (w : WG (RepV (Kp X kc pv)) (Kp X kc pv) ι H σ W Q (aLcC src ag at_ ae vs δ g)) :
    tLc (tiA X.K kc W src) (tgcA X.K kc vs ag) (ttA X.K kc W0 at_) (teA X.K kc W0 ae) vs σ H Q := by
  refine ⟨pv, ι, δ, g, rl, sl, ?_⟩
  unfold aLcC aLcR at w
  rw [R.bind_assoc] at w
  refine (WG.toI w).imp fun J H1 hx L nL => ?_
  obtain ⟨ι1, s, h1, e1, rl1, isr, w1⟩ := hx
  refine lc_main nL rl1 (sl.ext e1) isr ?_
  cases hr : lcL s ag at_ ae (wipA δ vs) s.items [] h1 with
  | ok ds h2 =>
    rw [hr] at w1
    refine fun ι' H' us e rl' hL hl rp => ?_
    have hpv : L ∉ pv := fun m => by
      obtain ⟨_, o, ho⟩ := rl1.priv L m
      rw [nL] at ho
      cases ho
    have rl2 := rl'.priv_push hL hl rp hpv
    refine w1 (ι' ++ [L]) (.ref L) H' ⟨e.pre.trans (List.prefix_append _ _), fun a m n => ?_, e.keep⟩ rl2 ⟨L, push_at rl' L, rfl⟩
    rcases List.mem_append.mp m with z | z
    · exact e.new a z n
    · rw [List.mem_singleton.mp z]
      exact nL
  | er c x h2 => exact absurd hr lcL_er
  | bad => rw [hr] at w1; exact w1
theorem a_lc (hc : X.calm = true) (hN : X.N.Nodup) (hi : AI X kc W tg iter src) (ok : BlkOk X.N X.env.scope scope own)
    (hg : ∀ (s : Shared) (H : Hp) (C : Addr) (cl : List (Str × Addr)) (fp : List Addr), AGc (X.blk s H scope (compEnvC scope cl C X.env) fp) kc (own.map (·.2)) tg ag) (ht : ∀ (s : Shared) (H : Hp) (C : Addr) (cl : List (Str × Addr)) (fp : List Addr), AIf (X.blk s H scope (compEnvC scope cl C X.env) fp) kc W0 ifs at_)
    (he : ∀ (s : Shared) (H : Hp) (C : Addr) (cl : List (Str × Addr)) (fp : List Addr), AE (X.blk s H scope (compEnvC scope cl C X.env) fp) kc W0 elt ae) (hs : ∀ x, foldedSetIterable iter X.env x = pure x := by intro _; rfl) :
    AE X kc W (.ListComp elt [⟨tg, iter, ifs, 0⟩] scope pos) (aLc src ag at_ ae (own.map (·.2))) := .of (pe_lc hc hN hi ok hg ht he hs) fun pv ι σ H δ g Q rl sl w => lcV_of rl sl w
theorem a_lcC (hc : X.calm = true) (hN : X.N.Nodup) (hi : AI X kc W tg iter src) (ok : BlkOk X.N X.env.scope scope own)
    (hg : ∀ (s : Shared) (H : Hp) (C : Addr) (cl : List (Str × Addr)) (fp : List Addr), AGc (X.blk s H scope (compEnvC scope cl C X.env) fp) kc (own.map (·.2)) tg ag) (ht : ∀ (s : Shared) (H : Hp) (C : Addr) (cl : List (Str × Addr)) (fp : List Addr), AIf (X.blk s H scope (compEnvC scope cl C X.env) fp) kc W0 ifs at_)
    (he : ∀ (s : Shared) (H : Hp) (C : Addr) (cl : List (Str × Addr)) (fp : List Addr), AE (X.blk s H scope (compEnvC scope cl C X.env) fp) kc W0 elt ae) (hs : ∀ x, foldedSetIterable iter X.env x = pure x := by intro _; rfl) :
    AE X kc W (.ListComp elt [⟨tg, iter, ifs, 0⟩] scope pos) (aLcC src ag at_ ae (own.map (·.2))) := .of (pe_lc hc hN hi ok hg ht he hs) fun pv ι σ H δ g Q rl sl w => lcC_of rl sl w
/-- y = [..] on one line, y a local -/
theorem s_setLc {i : Nat} {y : Str} {py spos : Pos} (hc : X.calm = true) (hN : X.N.Nodup) (hy : X.N[i]? = some y) (hyl : X.env.scope.names.lookup y = some .local)
    (hsw : swapsWith (.ListComp elt [⟨tg, iter, ifs, 0⟩] scope pos) (some (.Name y py)) spos.line X.env = pure true) (hi : AI X kc W tg iter src) (ok : BlkOk X.N X.env.scope scope own)
    (hg : ∀ (s : Shared) (H : Hp) (C : Addr) (cl : List (Str × Addr)) (fp : List Addr), AGc (X.blk s H scope (compEnvC scope cl C X.env) fp) kc (own.map (·.2)) tg ag) (ht : ∀ (s : Shared) (H : Hp) (C : Addr) (cl : List (Str × Addr)) (fp : List Addr), AIf (X.blk s H scope (compEnvC scope cl C X.env) fp) kc W0 ifs at_)
    (he : ∀ (s : Shared) (H : Hp) (C : Addr) (cl : List (Str × Addr)) (fp : List Addr), AE (X.blk s H scope (compEnvC scope cl C X.env) fp) kc W0 elt ae) (hs : ∀ x, foldedSetIterable iter X.env x = pure x := by intro _; rfl) :
    AS X kc W (.Assign [.Name y py] (.ListComp elt [⟨tg, iter, ifs, 0⟩] scope pos) spos) (sSet i (aLc src ag at_ ae (own.map (·.2)))) := .of (ps_setLc hc hN hy hyl hsw hi ok hg ht he hs) fun pv ι σ H δ g D rl sl w =>
  lcV_of rl sl ((WS.thn sl w).imp fun v H1 hx => by
    obtain ⟨ι1, d, h1, e1, rl1, rp1, w1⟩ := hx
    exact w1 ι1 _ H1 .refl rl1 ((sl.ext e1).set i rp1))
theorem s_setLcC {i : Nat} {y : Str} {py spos : Pos} (hc : X.calm = true) (hN : X.N.Nodup) (hy : X.N[i]? = some y) (hyl : X.env.scope.names.lookup y = some .local)
    (hsw : swapsWith (.ListComp elt [⟨tg, iter, ifs, 0⟩] scope pos) (some (.Name y py)) spos.line X.env = pure true) (hi : AI X kc W tg iter src) (ok : BlkOk X.N X.env.scope scope own)
    (hg : ∀ (s : Shared) (H : Hp) (C : Addr) (cl : List (Str × Addr)) (fp : List Addr), AGc (X.blk s H scope (compEnvC scope cl C X.env) fp) kc (own.map (·.2)) tg ag) (ht : ∀ (s : Shared) (H : Hp) (C : Addr) (cl : List (Str × Addr)) (fp : List Addr), AIf (X.blk s H scope (compEnvC scope cl C X.env) fp) kc W0 ifs at_)
    (he : ∀ (s : Shared) (H : Hp) (C : Addr) (cl : List (Str × Addr)) (fp : List Addr), AE (X.blk s H scope (compEnvC scope cl C X.env) fp) kc W0 elt ae) (hs : ∀ x, foldedSetIterable iter X.env x = pure x := by intro _; rfl) :
    AS X kc W (.Assign [.Name y py] (.ListComp elt [⟨tg, iter, ifs, 0⟩] scope pos) spos) (sSet i (aLcC src ag at_ ae (own.map (·.2)))) := .of (ps_setLc hc hN hy hyl hsw hi ok hg ht he hs) fun pv ι σ H δ g D rl sl w =>
  lcC_of rl sl ((WS.thn sl w).imp fun v H1 hx => by
    obtain ⟨ι1, d, h1, e1, rl1, rp1, w1⟩ := hx
    exact w1 ι1 _ H1 .refl rl1 ((sl.ext e1).set i rp1))
end
/-! ### defs -/
mutual
def D.clo (n : Nat) : D → Bool
  | .ref i => decide (i < n)
  | .tup ds => cloL n ds
  | .vl ds => cloL n ds
  | .obj _ _ ds => cloL n ds
  | _ => true
def cloL (n : Nat) : List D → Bool
  | [] => true
  | d :: ds => d.clo n && cloL n ds
end
def Cell.clo (n : Nat) : Cell → Bool
  | .lst ds => cloL n ds
  | .ro ds => cloL n ds
  | .ins _ _ ds => cloL n ds
  | .dic _ _ => false
  | .dead => true
/-- what is handed back as a value: a new cell's content -/
def frz (n : Nat) (d : D) (h : AH) : D := match d with
  | .ref i => if i < n then d else match h[i]? with
    | some (.lst ds) => .vl ds
    | some (.ins c fs ds) => .obj c fs ds
    | _ => d
  | d => d
/-- the end of a def: new cells go, where nothing leads to them any more -/
def fin (keep : Bool) (n : Nat) (d : D) (h : AH) : R D := if keep = true then .ok d h else if (h.take n).all (Cell.clo n) = true ∧ (frz n d h).clo n = true then .ok (frz n d h) (h.take n) else .ok d h
mutual
theorem RepV.cut {C : Kc} {ι : List Addr} {H : Hp} {n : Nat} : ∀ {d : D} {v : V}, d.clo n = true → RepV C ι H d v → RepV C (ι.take n) H d v
  | .non, _, _, h => h
  | .bl _, _, _, h => h
  | .int _, _, _, h => h
  | .str _, _, _, h => h
  | .tup ds, v, c, h => by
    obtain ⟨a, vs, h1, h2, h2', h3, h4⟩ := h.tup
    exact ⟨a, vs, h1, h2, ⟨fun m => h2'.1 (List.mem_of_mem_take m), h2'.2⟩, h3, RepL.cut c h4⟩
  | .vl ds, v, c, h => by
    obtain ⟨a, vs, h1, h2, h2', h3, h4⟩ := h.vl
    exact ⟨a, vs, h1, h2, ⟨fun m => h2'.1 (List.mem_of_mem_take m), h2'.2⟩, h3, RepL.cut c h4⟩
  | .obj _ fs ds, v, c, h => by
    obtain ⟨a, dx, vs, h1, h2, h3, h4, h5, h6⟩ := h.obj
    exact ⟨a, dx, vs, h1, h2, ⟨fun m => h3.1 (List.mem_of_mem_take m), h3.2⟩, h4, h5, RepL.cut c h6⟩
  | .ref i, v, c, h => by
    obtain ⟨a, h1, h2⟩ := h.ref
    have hi : i < n := of_decide_eq_true (show decide (i < n) = true from c)
    exact ⟨a, by rw [List.getElem?_take_of_lt hi]; exact h1, h2⟩
theorem RepL.cut {C : Kc} {ι : List Addr} {H : Hp} {n : Nat} : ∀ {ds : List D} {vs : List V}, cloL n ds = true → RepL C ι H ds vs → RepL C (ι.take n) H ds vs
  | [], _, _, h => h
  | d :: ds, vs, c, h => by
    obtain ⟨v, ws, h1, h2, h3⟩ := (show ∃ v ws, vs = v :: ws ∧ RepV C ι H d v ∧ RepL C ι H ds ws from h)
    obtain ⟨c1, c2⟩ := Bool.and_eq_true_iff.mp (show (d.clo n && cloL n ds) = true from c)
    exact ⟨v, ws, h1, RepV.cut c1 h2, RepL.cut c2 h3⟩
end
theorem CellR.cut {C : Kc} {ι : List Addr} {H : Hp} {n : Nat} {a : Addr} {c : Cell} (hc : c.clo n = true) (h : CellR C ι H a c) : CellR C (ι.take n) H a c := by
  cases c with
  | lst ds => obtain ⟨vs, h1, h2, h3⟩ := h; exact ⟨vs, h1, h2, h3.cut hc⟩
  | ro ds => obtain ⟨vs, o, h1, h2, h3⟩ := h; exact ⟨vs, o, h1, h2, h3.cut hc⟩
  | ins c fs ds => obtain ⟨dx, vs, h1, h2, h2', h3⟩ := h; exact ⟨dx, vs, h1, h2, h2', h3.cut hc⟩
  | dic ks ds => exact h
  | dead => exact h
theorem Rel.cut {C : Kc} {ι : List Addr} {H : Hp} {h : AH} (r : Rel C ι H h) {n : Nat} (hc : (h.take n).all (Cell.clo n) = true) : Rel C (ι.take n) H (h.take n) := by
  refine ⟨by rw [List.length_take, List.length_take, r.len], r.nd.sublist (List.take_sublist _ _), fun a m => ?_, fun i c e => ?_⟩
  · obtain ⟨na, z⟩ := r.priv a m
    exact ⟨fun m => na (List.mem_of_mem_take m), z⟩
  · have hi : i < n := by
      have := (List.getElem?_eq_some_iff.mp e).1
      rw [List.length_take] at this
      omega
    have e' : h[i]? = some c := by rwa [List.getElem?_take_of_lt hi] at e
    obtain ⟨a, ha, hr⟩ := r.cell i c e'
    exact ⟨a, by rw [List.getElem?_take_of_lt hi]; exact ha, hr.cut (List.all_eq_true.mp hc c (List.mem_of_getElem? e))⟩
theorem fin_wg {C : Kc} {ι ι' : List Addr} {H H' : Hp} {n : Nat} {h' : AH} {d : D} {v : V} {keep : Bool} {σ : L2.St} {W : WX} {Q : VK} (hn : ι.length = n) (e : Ext ι H ι' H') (rl : Rel C ι' H' h') (rp : RepV C ι' H' d v) (w : WG (RepV C) C ι H σ W Q (fin keep n d h')) : Q v H' := by
  unfold fin at w
  split at w
  · exact w ι' v H' e rl rp
  · split at w
    · rename_i hk hc
      have ei : ι'.take n = ι := by
        obtain ⟨t, rfl⟩ := e.pre
        rw [← hn, List.take_left]
      have rl2 := rl.cut hc.1
      rw [ei] at rl2
      refine w ι v H' ⟨List.prefix_refl _, fun _ m k => absurd m k, e.keep⟩ rl2 ?_
      have hd := hc.2
      have gen : frz n d h' = d → RepV C ι H' (frz n d h') v := fun z => by
        rw [z] at hd ⊢
        rw [← ei]
        exact rp.cut hd
      cases d with
      | ref i =>
        unfold frz at gen hd ⊢
        by_cases hi : i < n
        · simp only [hi, if_true] at gen hd ⊢
          exact gen trivial
        · simp only [hi, if_false] at gen hd ⊢
          have out : ∀ {a : Addr}, ι'[i]? = some a → a ∉ ι := fun {a} ha m => by
            rw [← ei] at m
            obtain ⟨j, hj, ej⟩ := List.getElem_of_mem m
            rw [List.length_take] at hj
            have h2 : ι'[j]? = some a := by
              rw [← ej, List.getElem_take, List.getElem?_eq_getElem]
            exact rl.inj ha h2 (by omega) rfl
          have offp : ∀ {a : Addr}, ι'[i]? = some a → a ∉ C.pv := fun {a} ha m => (rl.priv a m).1 (List.mem_of_getElem? ha)
          split at hd
          · rename_i ds hcell
            obtain ⟨a, rfl, ha, vs, h1, h2, h3⟩ := rl.at rp hcell
            refine ⟨a, vs, rfl, h1, ⟨out ha, offp ha⟩, h2, ?_⟩
            rw [← ei]
            exact h3.cut hd
          · rename_i c fs ds hcell
            obtain ⟨a, rfl, ha, dx, vs, h1, h2, h2', h3⟩ := rl.at rp hcell
            refine ⟨a, dx, vs, rfl, h1, ⟨out ha, offp ha⟩, h2, h2', ?_⟩
            rw [← ei]
            exact h3.cut hd
          · exact absurd (of_decide_eq_true (show decide (i < n) = true from hd)) hi
      | _ => exact gen rfl
    · exact w ι' v H' e rl rp
end Mr
namespace Mr
open PySem PySem.Spec PyProof.Rows L2 Aq
theorem RepX.cut {C : Kc} {ι : List Addr} {H : Hp} {n : Nat} {c : Str} {x : D} {cv : Value} {dx : Option Addr} (hc : x.clo n = true) (h : RepX C ι H c x cv dx) : RepX C (ι.take n) H c x cv dx := by
  obtain ⟨h1, d, v, h2, h3, h4, h5⟩ := h
  exact ⟨h1, d, v, h2, h3, ⟨fun m => h4.1 (List.mem_of_mem_take m), h4.2⟩, h5.cut hc⟩
def finE (n : Nat) (c : Str) (x : D) (h : AH) : R D := if (h.take n).all (Cell.clo n) = true ∧ x.clo n = true then .er c x (h.take n) else .er c x h
theorem finE_wg {C : Kc} {ι ι' : List Addr} {H H' : Hp} {n : Nat} {h' : AH} {c : Str} {x : D} {cv : Value} {dx : Option Addr} {σ : L2.St} {W : WX} {Q : VK} (hn : ι.length = n) (e : Ext ι H ι' H') (rl : Rel C ι' H' h') (rx : RepX C ι' H' c x cv dx) (w : WG (RepV C) C ι H σ W Q (finE n c x h')) : W cv dx σ H' := by
  unfold finE at w
  split at w
  · rename_i hc
    have ei : ι'.take n = ι := by
      obtain ⟨t, rfl⟩ := e.pre
      rw [← hn, List.take_left]
    have rl2 := rl.cut hc.1
    have rx2 := rx.cut hc.2
    rw [ei] at rl2 rx2
    exact w ι cv dx H' ⟨List.prefix_refl _, fun _ m k => absurd m k, e.keep⟩ rl2 rx2
  · exact w ι' cv dx H' e rl rx
def startA (N : Nat) (ds : List D) : AEnv := ds.map some ++ List.replicate (N - ds.length) none
/-- a def's body, run -/
def runB (keep : Bool) (np N : Nat) (b : ASt) : AF := fun ds h => if ds.length = np then match b (startA N ds) h with
  | .nx _ h' => fin keep h.length .non h'
  | .rt d h' => fin keep h.length d h'
  | .er c x _ h' => finE h.length c x h'
  | _ => .bad
  else .bad
def spA (K : PySem.W.Frag) (kc : Str → Addr) (f : AF) : Sp := fun vs H Q E => ∃ pv, let C : Kc := ⟨K, kc, pv⟩; ∃ ι ds h, Rel C ι H h ∧ RepL C ι H ds vs ∧ WG (RepV C) C ι H [] (fun cv dx _ H' => E cv dx H') Q (f ds h)
theorem slo_start {C : Kc} {ι : List Addr} {H : Hp} {ds : List D} {vs : List V} {N : List Str} (r : RepL C ι H ds vs) : Slo C ι H (L2.start N vs) (startA N.length ds) := by
  have hl := r.length
  refine ⟨?_, fun i d h => ?_⟩
  · unfold L2.start startA
    rw [List.length_append, List.length_append, List.length_map, List.length_map, List.length_replicate, List.length_replicate, hl]
  · unfold startA at h
    unfold L2.start
    by_cases hi : i < ds.length
    · rw [List.getElem?_append_left (by rw [List.length_map]; exact hi), List.getElem?_map] at h
      rw [List.getElem?_append_left (by rw [List.length_map, ← hl]; exact hi), List.getElem?_map]
      obtain ⟨d', h1, h2⟩ := Option.map_eq_some_iff.mp h
      cases h2
      obtain ⟨v, hv, rv⟩ := r.get h1
      exact ⟨v, by rw [hv]; rfl, rv⟩
    · rw [List.getElem?_append_right (by rw [List.length_map]; omega), List.getElem?_replicate] at h
      split at h <;> cases h
theorem runB_len {keep : Bool} {np N : Nat} {b : ASt} {ds : List D} {h : AH} {C : Kc} {ι : List Addr} {H : Hp} {σ : L2.St} {W : WX} {Q : VK} (w : WG (RepV C) C ι H σ W Q (runB keep np N b ds h)) : ds.length = np := by
  unfold runB at w
  split at w
  · assumption
  · exact w.elim
/-- a body's wish from the def's -/
theorem runB_ws {keep : Bool} {np N : Nat} {b : ASt} {ds : List D} {h : AH} {C : Kc} {ι : List Addr} {H : Hp} {E : XK} {Q : VK} (rl : Rel C ι H h) (w : WG (RepV C) C ι H [] (fun cv dx _ H' => E cv dx H') Q (runB keep np N b ds h)) :
    WS C ι H (fun cls d _ H' => E cls d H') { nx := fun _ H' => Q .non H', rt := Q } (b (startA N ds) h) := by
  unfold runB at w
  split at w
  · cases hb : b (startA N ds) h with
    | nx δ h' =>
      rw [hb] at w
      exact fun ι' σ' H' e rl' sl' => fin_wg (v := .non) rl.len e rl' (show RepV C ι' H' .non .non from rfl) w
    | rt d h' =>
      rw [hb] at w
      exact fun ι' v H' e rl' rp => fin_wg rl.len e rl' rp w
    | er c x δ h' =>
      rw [hb] at w
      exact fun ι' σ' cv dx H' e rl' sl' rx => finE_wg rl.len e rl' rx w
    | bk δ h' => rw [hb] at w; exact w.elim
    | ct δ h' => rw [hb] at w; exact w.elim
    | bad => rw [hb] at w; exact w.elim
  · exact w.elim
section
variable {P : Program} {w : World} {K : PySem.W.Frag} {mg : Str → Option Value} {base : Heap} {kc : Str → Addr}
/-- the promise: the def does as its mirror -/
abbrev CalA (P : Program) (w : World) (K : PySem.W.Frag) (mg : Str → Option Value) (base : Heap) (kc : Str → Addr) (k : Nat) (x : Str) (f : AF) : Prop := CalX P w K mg base k x (spA K kc f)
theorem spA_len {f : AF} {np : Nat} (hf : ∀ ds h, ds.length ≠ np → f ds h = .bad) : ∀ vs H Q E, spA K kc f vs H Q E → vs.length = np := fun vs H Q E h => by
  obtain ⟨pv, ι, ds, g, rl, rp, w⟩ := h
  by_cases hl : ds.length = np
  · rw [← rp.length, hl]
  · rw [hf ds g hl] at w
    exact w.elim
theorem runB_bad {keep : Bool} {np N : Nat} {b : ASt} : ∀ ds h, ds.length ≠ np → runB keep np N b ds h = .bad := fun ds h hl => by
  unfold runB
  rw [if_neg hl]
theorem Df.calA {x : Str} {st : Stmt} {N ps : List Str} {k : Nat} {b : ASt} {keep : Bool} (D : Df K mg x st ps) (S : FnScope N ps (defScope st))
    (hb : ∀ (f : Addr) (cdv : Value) (A : Around) (outer : List Env) (s : Shared) (H : Hp) (E : XK), Room k (A.deeper (envOfC x (defScope st) s.heap.objs.size f cdv)) →
      ASs (cxOf (L2.CX P w) P w K mg base N x (defScope st) f cdv A outer s H E) kc (fun cls d _ H => E cls d H) (defBody st) b) : CalA P w K mg base kc (k + 1) x (runB keep ps.length N.length b) :=
  D.calX S (spA_len runB_bad) fun f cdv A outer s H vs Q E hr h => by
    obtain ⟨pv, ι, ds, g, rl, rp, w⟩ := h
    exact ⟨_, hb f cdv A outer s H E hr, pv, ι, _, g, rl, slo_start rp, runB_ws rl w⟩
/-- .. of a def with keyword-only parameters, of a method -/
theorem FunD.okA {x qual : Str} {st : Stmt} {f : Addr} {fd : FuncData} {dvs : List V} {kws : List (Str × V)} {N ps : List Str} {k : Nat} {b : ASt} {keep : Bool} (F : FunD K x qual (defArgs st) (defBody st) (defScope st) dvs kws f fd) (S : FnScope N ps (defScope st))
    (hb : ∀ (cdv : Value) (A : Around) (outer : List Env) (s : Shared) (H : Hp) (E : XK), Room k (A.deeper (envOfC qual (defScope st) s.heap.objs.size f cdv)) →
      ASs (cxOf (L2.CX P w) P w K mg base N qual (defScope st) f cdv A outer s H E) kc (fun cls d _ H => E cls d H) (defBody st) b) : FnOk P w K mg base (L2.CX P w) (k + 1) f fd ps (spA K kc (runB keep ps.length N.length b)) :=
  F.ok S (spA_len runB_bad) fun cdv A outer s H vs Q E hr h => by
    obtain ⟨pv, ι, ds, g, rl, rp, w⟩ := h
    exact ⟨_, hb cdv A outer s H E hr, pv, ι, _, g, rl, slo_start rp, runB_ws rl w⟩
theorem Fun.okA {x qual : Str} {st : Stmt} {f : Addr} {fd : FuncData} {N ps : List Str} {k : Nat} {b : ASt} {keep : Bool} (F : Fun K x qual st f fd) (S : FnScope N ps (defScope st))
    (hb : ∀ (cdv : Value) (A : Around) (outer : List Env) (s : Shared) (H : Hp) (E : XK), Room k (A.deeper (envOfC qual (defScope st) s.heap.objs.size f cdv)) →
      ASs (cxOf (L2.CX P w) P w K mg base N qual (defScope st) f cdv A outer s H E) kc (fun cls d _ H => E cls d H) (defBody st) b) : FnOk P w K mg base (L2.CX P w) (k + 1) f fd ps (spA K kc (runB keep ps.length N.length b)) :=
  F.okX S (spA_len runB_bad) fun cdv A outer s H vs Q E hr h => by
    obtain ⟨pv, ι, ds, g, rl, rp, w⟩ := h
    exact ⟨_, hb cdv A outer s H E hr, pv, ι, _, g, rl, slo_start rp, runB_ws rl w⟩
end
/-! ### calls -/
section
variable {X : Cx} {kc : Str → Addr} {W : WX} {e : Expr} {es : List Expr} {t tk : AAs} {f : AF} {k j : Nat} {x : Str} {p pos : Pos} {kws : List Keyword}
def aCall (f : AF) (t : AAs) : AEx := fun δ h => (t δ h).bind fun ds h1 => f ds h1
theorem wg_call {C : Kc} {ι : List Addr} {H : Hp} {σ : L2.St} {Q : VK} {r : R D} (w : WG (RepV C) C ι H σ W Q r) : WG (RepV C) C ι H [] (fun cv dx _ H' => W cv dx σ H') Q r := by
  cases r with
  | ok d h => exact w
  | er c x h => exact w
  | bad => exact w
theorem a_call (c : CalA X.prog X.w X.K X.mg X.base kc k x f) (hr : Room j X.A) (hk : k ≤ j) (hg : Gl X x) (tkW : Takes X W) (ha : AA X kc W (e :: es) t) (hdb : (x == ("__debug__" : Str)) = false := by decide)
    (he : starEach (e :: es) X.env = (false, eval e X.env) :: starEach es X.env := by rfl) (hpl : (backTo pos (starEach es X.env)).any (·.1) = false := by rfl) : AE X kc W (.Call (.Name x p) (e :: es) [] pos) (aCall f t) :=
  .of (pe_cx c hr hk hg tkW ha hdb he hpl) fun pv ι σ H δ g Q rl sl w => ⟨pv, ι, δ, g, rl, sl, (WG.bind w).imp fun vs H1 hx => by
    obtain ⟨ι1, ds, h1, e1, rl1, rp1, w1⟩ := hx
    exact ⟨pv, ι1, ds, h1, rl1, rp1.1, wg_call w1⟩⟩
/-- keywords -/
abbrev AK (X : Cx) (kc : Str → Addr) (W : WX) (kws : List Keyword) (ak : AAs) : Prop := PK X kws (taA X.K kc W kws.length ak)
theorem AK.of {tk : TA} {ak : AAs} (h : PK X kws tk) (f : ∀ pv ι σ H δ h Q, Rel (Kp X kc pv) ι H h → Slo (Kp X kc pv) ι H σ δ → WG (fun ι H (ds : List D) vs => RepL (Kp X kc pv) ι H ds vs ∧ vs.length = kws.length) (Kp X kc pv) ι H σ W Q (ak δ h) → tk σ H Q) : AK X kc W kws ak :=
  ⟨fun pos pins s σ H Q I ⟨pv, ι, δ, g, rl, sl, w⟩ => h.run pos pins s σ H Q I (f pv ι σ H δ g Q rl sl w)⟩
theorem k_nil : AK X kc W [] aNil := .of pk_nil fun pv ι σ H δ g Q rl sl w => w ι _ H .refl rl ⟨rfl, rfl⟩
theorem k_cons {a : Expr} {aa : AEx} {ar : AAs} {nm kpos} (ha : AE X kc W a aa) (hr : AK X kc W kws ar) : AK X kc W (⟨nm, a, kpos⟩ :: kws) (aCons aa ar) := .of (pk_cons ha hr) fun pv ι σ H δ g Q rl sl w => by
  refine ⟨pv, ι, δ, g, rl, sl, (WG.bind w).imp fun x H1 hx => ?_⟩
  obtain ⟨ι1, d1, h1, e1, rl1, rp1, w1⟩ := hx
  refine ⟨pv, ι1, δ, h1, rl1, sl.ext e1, (WG.bind w1).imp fun xs H2 hy => ?_⟩
  obtain ⟨ι2, ds, h2, e2, rl2, rp2, w2⟩ := hy
  exact w2 ι2 _ H2 .refl rl2 ⟨.cons (rp1.ext e2) rp2.1, by rw [List.length_cons, List.length_cons, rp2.2]⟩
abbrev CalKA (P : Program) (w : World) (K : PySem.W.Frag) (mg : Str → Option Value) (base : Heap) (kc : Str → Addr) (k : Nat) (x : Str) (n : Nat) (ks : List Str) (f : AF) : Prop := CalKX P w K mg base k x n ks (spA K kc f)
def aCallK (f : AF) (n m : Nat) (t tk : AAs) : AEx := fun δ h => (t δ h).bind fun ds h1 => (tk δ h1).bind fun zs h2 => if ds.length = n ∧ zs.length = m then f (ds ++ zs) h2 else .bad
theorem a_callK {n : Nat} {ks : List Str} (c : CalKA X.prog X.w X.K X.mg X.base kc k x n ks f) (hr : Room j X.A) (hk : k ≤ j) (hg : Gl X x) (tkW : Takes X W) (ha : AA X kc W (e :: es) t) (hkw : AK X kc W kws tk)
    (h1 : (backToKw pos (keywordEach kws X.env)).all (·.1.isSome) = true := by rfl) (h2 : (backToKw pos (keywordEach kws X.env)).filterMap (·.1) = ks := by rfl) (h3 : (x == ("__debug__" : Str)) = false := by decide)
    (h4 : starEach (e :: es) X.env = (false, eval e X.env) :: starEach es X.env := by rfl) (h5 : ((backTo pos (starEach (e :: es) X.env)).any (·.1) || (backToKw pos (keywordEach kws X.env)).any (·.1.isNone)) = false := by rfl) :
    AE X kc W (.Call (.Name x p) (e :: es) kws pos) (aCallK f n ks.length t tk) := .of (pe_ckx c hr hk hg tkW ha hkw h1 h2 h3 h4 h5) fun pv ι σ H δ g Q rl sl w => by
  refine ⟨pv, ι, δ, g, rl, sl, (WG.bind w).imp fun vs H1 hx => ?_⟩
  obtain ⟨ι1, ds, h1, e1, rl1, rp1, w1⟩ := hx
  refine ⟨pv, ι1, δ, h1, rl1, sl.ext e1, (WG.bind w1).imp fun zs H2 hy => ?_⟩
  obtain ⟨ι2, es, h2, e2, rl2, rp2, w2⟩ := hy
  split at w2
  · rename_i hl
    have rr := rp1.1.ext e2
    exact ⟨by rw [← rr.length]; exact hl.1, by rw [← rp2.1.length]; exact hl.2, pv, ι2, ds ++ es, h2, rl2, rr.append rp2.1, wg_call w2⟩
  · exact w2.elim
/-! a new instance -/
theorem run_makeKS {n : Nat} {C fa : Addr} {fd : FuncData} {ps ks : List Str} {sp : Sp} {g : List Value → List Value → List Value} {gV : List V → List V → List V} {pins : List (Addr × Obj)} {σ : L2.St} {H : Hp} {s : Shared} {Q : VK} {us ws : List Value} {vs zs : List V} (M : Mk X.K C fa) (F : FnOk X.prog X.w X.K X.mg X.base (L2.CX X.prog X.w) k fa fd ps sp) (hr : Room (k + 1) X.A) (hb : KBn X.K fd ps (n + 1) ks g gV) (tkW : Takes X W)
    (I : Inv X pins σ H s) (r : Vals vs us) (rz : Vals zs ws) (l1 : vs.length = n) (l2 : zs.length = ks.length)
    (h : ∀ x dx, H x = none → H dx = none → dx ≠ x → sp (gV (.ref x :: vs) zs) (upd (upd H dx (.own x)) x (.ins C dx [])) (fun v H2 => v = .non ∧ Q (.ref x) H2) (L2.WE W σ)) :
    wpAny (model X.prog X.w) X.A (call (.ref C) us (ks.zip ws)) (EP X pins σ Q) X.xe s := by
  have hq := h (s.heap.objs.size + 1) s.heap.objs.size (I.hok.fresh (Nat.le_succ _)) (I.hok.fresh (Nat.le_refl _)) (Nat.ne_of_lt (Nat.lt_succ_self _))
  have I2 := Inv.made (C := C) I
  have r1 : Vals (V.ref (s.heap.objs.size + 1) :: vs) (Value.ref (s.heap.objs.size + 1) :: us) := .cons rfl r
  have r2 := hb.rel r1 rz
  have n1 : (Value.ref (s.heap.objs.size + 1) :: us).length = n + 1 := by
    rw [List.length_cons, ← r.length, l1]
  refine wpAny_call (make_map (f := fa) I.kIn M.makes M.init (beq_iff_eq.mp M.fn) (codeAny_mono (F.run _ X.stack _ _ ⟨Value.ref (s.heap.objs.size + 1) :: us, ks.zip ws⟩ (g (Value.ref (s.heap.objs.size + 1) :: us) ws) _ _ _ (hr.make C us (ks.zip ws))
    (I2.env0.make C us (ks.zip ws)) (hb.to _ (Value.ref (s.heap.objs.size + 1) :: us) ws I2.kIn n1 (rz.length.symm.trans l2)) r2 hq) fun r s' hq' => ?_))
  cases r with
  | error e => exact passAt tkW σ pins _ _ e s' I2 hq'
  | ok fl =>
    cases fl with
    | ret u =>
      obtain ⟨v, H', I3, rv, ev, q3⟩ := I2.after hq'
      subst ev
      exact ⟨rv, ⟨V.ref (s.heap.objs.size + 1), H', I3, rfl, q3⟩⟩
    | next => exact False.elim hq'
    | brk => exact False.elim hq'
    | cont => exact False.elim hq'
abbrev MakKA (P : Program) (w : World) (K : PySem.W.Frag) (mg : Str → Option Value) (base : Heap) (kc : Str → Addr) (k : Nat) (x : Str) (n : Nat) (ks : List Str) (f : AF) : Prop := MakKX P w K mg base k x (kc x) n ks (spA K kc f)
/-- C(.., k = v): keep or hand back by value -/
def aMake (keep : Bool) (c : Str) (f : AF) (n m : Nat) (t tk : AAs) : AEx := fun δ h => (t δ h).bind fun ds h1 => (tk δ h1).bind fun zs h2 => if ds.length = n ∧ zs.length = m then
  (f (.ref h2.length :: (ds ++ zs)) (h2 ++ [.ins c [] []])).bind fun r h3 => match r with
    | .non => fin keep h2.length (.ref h2.length) h3
    | _ => .bad
  else .bad
theorem RepV.is_non {C : Kc} {ι : List Addr} {H : Hp} {d : D} {v : V} (r : RepV C ι H d v) (h : v = .non) : d = .non := by
  have := non_iff r
  rw [decide_eq_true h] at this
  cases d <;> first | rfl | cases this
def tMkNS (C : Addr) (n m : Nat) (sp : Sp) (E : L2.St → XK) (t tk : TA) : TE := fun σ H Q => t σ H fun vs H1 => tk σ H1 fun zs H2 => vs.length = n ∧ zs.length = m ∧ ∀ y dx, H2 y = none → H2 dx = none → dx ≠ y →
  sp (.ref y :: vs ++ zs) (upd (upd H2 dx (.own y)) y (.ins C dx [])) (fun v H3 => v = .non ∧ Q (.ref y) H3) (E σ)
theorem pe_mkS {n : Nat} {C : Addr} {ks : List Str} {sp : Sp} {t tkw : TA} (c : MakKX X.prog X.w X.K X.mg X.base k x C n ks sp) (hr : Room j X.A) (hk : k + 1 ≤ j) (hg : Gl X x) (tkW : Takes X W) (ha : PA X (e :: es) t) (hkw : PK X kws tkw)
    (h1 : (backToKw pos (keywordEach kws X.env)).all (·.1.isSome) = true := by rfl) (h2 : (backToKw pos (keywordEach kws X.env)).filterMap (·.1) = ks := by rfl) (h3 : (x == ("__debug__" : Str)) = false := by decide)
    (h4 : starEach (e :: es) X.env = (false, eval e X.env) :: starEach es X.env := by rfl) (h5 : ((backTo pos (starEach (e :: es) X.env)).any (·.1) || (backToKw pos (keywordEach kws X.env)).any (·.1.isNone)) = false := by rfl) :
    PE X (.Call (.Name x p) (e :: es) kws pos) (tMkNS C n ks.length sp (L2.WE W) t tkw) := by
  obtain ⟨fa, fd, ps, g, M, F, hm, b⟩ := c.ex
  refine ⟨fun pins s σ H Q I h => wpAny_Call_Name_kw (ld_glob I hg hm ?_ h3)⟩
  refine PySem.W.callWith_KW (h₀ := X.base) I.ok.mod.kin M.kp h1 (thn (ha.run pos pins s σ H _ I h) ?_) h5 h4
  rintro us s1 ⟨vs, H1, I1, r, q⟩
  refine thn (hkw.run pos pins s1 σ H1 _ I1 q) ?_
  rintro ws s2 ⟨zs, H2, I2, rz, l1, l2, q2⟩
  refine ⟨I2.kIn, ?_⟩
  rw [h2]
  exact run_makeKS M F (hr.mono hk) b tkW I2 r rz l1 l2 q2
theorem a_make {keep : Bool} {n : Nat} {ks : List Str} (c : MakKA X.prog X.w X.K X.mg X.base kc k x n ks f) (hr : Room j X.A) (hk : k + 1 ≤ j) (hg : Gl X x) (tkW : Takes X W) (ha : AA X kc W (e :: es) t) (hkw : AK X kc W kws tk)
    (h1 : (backToKw pos (keywordEach kws X.env)).all (·.1.isSome) = true := by rfl) (h2 : (backToKw pos (keywordEach kws X.env)).filterMap (·.1) = ks := by rfl) (h3 : (x == ("__debug__" : Str)) = false := by decide)
    (h4 : starEach (e :: es) X.env = (false, eval e X.env) :: starEach es X.env := by rfl) (h5 : ((backTo pos (starEach (e :: es) X.env)).any (·.1) || (backToKw pos (keywordEach kws X.env)).any (·.1.isNone)) = false := by rfl) :
    AE X kc W (.Call (.Name x p) (e :: es) kws pos) (aMake keep x f n ks.length t tk) := .of (pe_mkS c hr hk hg tkW ha hkw h1 h2 h3 h4 h5) fun pv ι σ H δ g Q rl sl w => by
  refine ⟨pv, ι, δ, g, rl, sl, (WG.bind w).imp fun vs H1 hx => ?_⟩
  obtain ⟨ι1, ds, g1, e1, rl1, rp1, w1⟩ := hx
  refine ⟨pv, ι1, δ, g1, rl1, sl.ext e1, (WG.bind w1).imp fun zs H2 hy => ?_⟩
  obtain ⟨ι2, es', g2, e2, rl2, rp2, w2⟩ := hy
  split at w2
  · rename_i hl
    have rr := rp1.1.ext e2
    refine ⟨by rw [← rr.length]; exact hl.1, by rw [← rp2.1.length]; exact hl.2, fun y dx ny ndx nyd => ?_⟩
    have ny' : upd H2 dx (.own y) y = none := by rw [upd_ne (Ne.symm nyd)]; exact ny
    have en1 := ext_new rl2 ndx (.own y)
    have rl3 := rl2.new ndx (.own y)
    have en2 := ext_push rl3 ny' (.ins (kc x) dx [])
    have en := en1.trans en2
    have rl4 : Rel (Kp X kc pv) (ι2 ++ [y]) _ (g2 ++ [.ins x [] []]) := rl3.push ny' (o := .ins (kc x) dx []) ⟨dx, [], upd_same, rfl, by decide, rfl⟩
    have all := (rr.append rp2.1).ext en
    refine ⟨pv, ι2 ++ [y], .ref g2.length :: (ds ++ es'), g2 ++ [.ins x [] []], rl4, .cons ⟨y, push_at rl2 y, rfl⟩ all, ?_⟩
    cases hf : f (.ref g2.length :: (ds ++ es')) (g2 ++ [.ins x [] []]) with
    | ok d5 g5 =>
      rw [hf] at w2
      refine fun ι5 v H5 e5 rl5 rp5 => ?_
      cases d5 with
      | non => exact ⟨rp5, fin_wg (C := Kp X kc pv) (σ := σ) (W := W) (d := .ref g2.length) rl2.len (en.trans e5) rl5 (show RepV (Kp X kc pv) ι5 H5 (.ref g2.length) (.ref y) from ⟨y, pre_get e5.pre (push_at rl2 y), rfl⟩) w2⟩
      | _ => exact w2.elim
    | er c x h' =>
      rw [hf] at w2
      exact fun ι' cv dx' H' e' rl' rx => w2 ι' cv dx' H' (en.trans e') rl' rx
    | bad =>
      rw [hf] at w2
      exact w2
  · exact w2.elim
end
end Mr
namespace Mr
open PySem PySem.Spec PyProof.Rows L2 Aq
/-! ### errors -/
/-- an error class of the program, as the text has it -/
def ErT (K : PySem.W.Frag) (mg : Str → Option Value) (kc : Str → Addr) (n : String) (fx : String) : Prop := (fx : Str) = fldOf (n : Str) ∧ ∃ (qual : String) (fI : Addr), PySem.Err.Txt K mg n qual fx (kc (n : Str)) fI
section
variable {X : Cx} {kc : Str → Addr} {W : WX} {a : Expr} {aa : AEx} {n fx : String} {p pos pos2 : Pos} {k : Nat}
def sRaise (c : Str) (a : AEx) : ASt := fun δ h => (a δ h).thn δ fun d h1 => .er c d δ h1
theorem s_raise (hc : X.calm = true) (T : ErT X.K X.mg kc n fx) (hr : Room k X.A) (tk : Takes X W) (ha : AE X kc W a aa) (hg : Gl X (n : Str)) (hdb : ((n : Str) == ("__debug__" : Str)) = false)
    (he : starEach (a :: []) X.env = (false, eval a X.env) :: starEach [] X.env := by rfl) (hpl : (backTo pos (starEach [] X.env)).any (·.1) = false := by rfl) :
    AS X kc W (.Raise (some (.Call (.Name (n : Str) p) [a] [] pos)) none pos2) (sRaise (n : Str) aa) := by
  obtain ⟨ef, qual, fI, T⟩ := T
  refine .of (ps_raiseErr hc T hr tk (a_cons ha a_nil he) hg hdb he hpl) fun pv ι σ H δ g D rl sl w => ?_
  refine ⟨pv, ι, δ, g, rl, sl, ?_⟩
  have w0 := WS.thn (rep := RepV (Kp X kc pv)) sl w
  unfold aCons
  cases hr : aa δ g with
  | bad => rw [hr] at w0; exact w0
  | er c x h' => rw [hr] at w0; exact w0
  | ok d h1 =>
    rw [hr] at w0
    refine fun ι1 vs H1 e1 rl1 rp1 => ?_
    obtain ⟨v, rfl, r⟩ := repL1 rp1.1
    obtain ⟨ι2, d2, h2, e2, rl2, rp2, w2⟩ := w0 ι1 v H1 e1 rl1 r
    refine ⟨v, rfl, fun q nq => ?_⟩
    have en := ext_new rl2 nq (.xd [((fx : Str), v)])
    refine w2 ι2 σ _ _ _ en (rl2.new nq _) ((sl.ext e2).ext en) ⟨rfl, q, v, rfl, ?_, rl2.fresh nq, rp2.ext en⟩
    rw [← ef]
    exact upd_same
end
/-! ### try: clauses that hand back something made of the error's field -/
/-- a clause: the class, the name's slot, what is handed back of the field -/
abbrev HCl := Str × Nat × (D → D)
def hdlA : List HCl → Str → D → AEnv → AH → RS
  | [], c, x, δ, h => .er c x δ h
  | (c', i, f) :: r, c, x, δ, h => if c = c' then (if i < δ.length then .rt (f x) h else .bad) else hdlA r c x δ h
def sTry (cs : List Str) (b : ASt) (hs : List HCl) : ASt := fun δ h => match b δ h with
  | .er c x δ1 h1 => if c ∈ cs then hdlA hs c x δ1 h1 else .bad
  | r => r
/-- what a clause's suite is to do -/
def tsE (K : PySem.W.Frag) (mg : Str → Option Value) (kc : Str → Addr) (n fx : String) (i : Nat) (f : D → D) : Addr → Value → Option Addr → TS := fun a cls d Dn σ H => ∃ pv, let C : Kc := ⟨K, kc, pv⟩; ∃ ι h x v dd, Rel C ι H h ∧ σ[i]? = some (some (.ref a)) ∧ cls = .ref (kc (n : Str)) ∧ d = some dd ∧ H dd = some (.xd [((fx : Str), v)]) ∧ Off C ι dd ∧ RepV C ι H x v ∧ WS C ι H W0 Dn (.rt (f x) h)
inductive HdA (X : Cx) (kc : Str → Addr) : List ExceptHandler → List Cl → List HCl → Prop
  | nil : HdA X kc [] [] []
  | cons {x nm : Str} {n fx : String} {i : Nat} {f : D → D} {b₀ : Stmt} {suite : List Stmt} {np pos' : Pos} {hds : List ExceptHandler} {l : List Cl} {hs : List HCl} (hx : x = (n : Str)) (T : ErT X.K X.mg kc n fx) (hc : Names X x (.ref (kc (n : Str)))) (hi : X.N[i]? = some nm) (hln : X.env.kindOf nm = some .local)
      (hsu : ∀ (a : Addr) (oe : Obj) (cls : Value) (d : Option Addr) (pn : List (Addr × Obj)), Zc cls d oe → (∃ vs, oe.data = .fields vs) → PSs (X.suite a ((a, oe) :: pn)) (b₀ :: suite) (tsE X.K X.mg kc n fx i f a cls d)) (r : HdA X kc hds l hs) :
      HdA X kc (.ExceptHandler (some (.Name x np)) (some nm) (b₀ :: suite) pos' :: hds) ((.ref (kc (n : Str)), i, tsE X.K X.mg kc n fx i f) :: l) (((n : Str), i, f) :: hs)
theorem HdA.hds {X : Cx} {kc : Str → Addr} {h : List ExceptHandler} {l : List Cl} {hs : List HCl} (a : HdA X kc h l hs) : HdsAs X h l := by
  induction a with
  | nil => exact .nil
  | cons hx T hc hi hln hsu r ih => exact .cons hc hi hln hsu ih
section
variable {X : Cx} {kc : Str → Addr} {W : WX} {pos : Pos} {body : List Stmt} {ab : ASt} {h₀ : ExceptHandler} {hds : List ExceptHandler} {l : List Cl} {hs : List HCl}
/-- which class a clause's class takes: its own alone -/
def ExmA (K : PySem.W.Frag) (kc : Str → Addr) (cs : List Str) : Prop := ∀ c ∈ cs, ∀ c' ∈ cs, PySem.W.exmOne K (.ref (kc c)) (.ref (kc c')) = some (decide (c = c'))
def clsOf (hs : List HCl) : List Str := hs.map (·.1)
theorem hdl_wma {cs : List Str} {pv : List Addr} {hs' : List ExceptHandler} (hex : ExmA X.K kc cs) (hh : HdA X kc hs' l hs) (hsub : ∀ c ∈ clsOf hs, c ∈ cs) {c : Str} {x : D} {δ1 : AEnv} {h1 : AH} {ι' : List Addr} {H' : Hp} {D : Ends} {σ' : L2.St} {cv : Value} {dx : Option Addr} (hc : c ∈ cs)
    (rl' : Rel (Kp X kc pv) ι' H' h1) (sl' : Slo (Kp X kc pv) ι' H' σ' δ1) (rx : RepX (Kp X kc pv) ι' H' c x cv dx) (w2 : WS (Kp X kc pv) ι' H' W D (hdlA hs c x δ1 h1)) : wMA X.K W D l cv dx σ' H' := by
  induction hh with
  | nil => exact w2 ι' σ' cv dx H' .refl rl' sl' rx
  | @cons y nm n fx i f b₀ suite np pos' hds l hs hx T hcn hi hln hsu r ih =>
    have hm : (n : Str) ∈ cs := hsub _ List.mem_cons_self
    have rx0 := rx
    obtain ⟨rfl, dd, v, rfl, hd, off, rv⟩ := rx0
    refine ⟨decide (c = (n : Str)), hex c hc _ hm, fun hy a na => ?_, fun hnn => ?_⟩
    · have hcn' : c = (n : Str) := of_decide_eq_true hy
      subst hcn'
      have w2' : WS (Kp X kc pv) ι' H' W D (if (n : Str) = (n : Str) then (if i < δ1.length then .rt (f x) h1 else .bad) else hdlA hs _ x δ1 h1) := w2
      rw [if_pos rfl] at w2'
      split at w2'
      · rename_i hlen
        refine ⟨pv, ι', h1, x, v, dd, rl', by rw [List.getElem?_set_self (by rw [sl'.len]; exact hlen)], rfl, rfl, ?_, off, rv, w2'⟩
        rw [T.1]
        exact hd
      · exact w2'.elim
    · have hne : ¬ c = (n : Str) := of_decide_eq_false hnn
      refine ih (fun c' m => hsub c' (List.mem_cons_of_mem _ m)) ?_
      have w2' : WS (Kp X kc pv) ι' H' W D (if c = (n : Str) then (if i < δ1.length then .rt (f x) h1 else .bad) else hdlA hs c x δ1 h1) := w2
      rwa [if_neg hne] at w2'
theorem s_try {cs : List Str} (hst : X.stack = X.env :: X.outer) (hf : X.env.frame = some X.env.locals) (hN : X.N.Nodup) (tk : Takes X W) (hex : ExmA X.K kc cs) (hsub : ∀ c ∈ clsOf hs, c ∈ cs)
    (hb : ∀ (W : WX) (pn : List (Addr × Obj)) (xe : Value → Shared → Prop), Takes (X.tr pn xe) W → PassesOwn (model X.prog X.w) X.A X.env xe → ASs (X.tr pn xe) kc W body ab)
    (hh : HdA X kc (h₀ :: hds) l hs) : AS X kc W (.Try body (h₀ :: hds) [] [] pos) (sTry cs ab hs) :=
  .of (ps_try_manyAs (tb := fun W => tsA X.K kc W ab) hst hf hN tk hb hh.hds) fun pv ι σ H δ g D rl sl w => by
  refine ⟨pv, ι, δ, g, rl, sl, ?_⟩
  unfold sTry at w
  cases hr : ab δ g with
  | nx δ1 h1 => rw [hr] at w; exact w
  | rt d h1 => rw [hr] at w; exact w
  | bk δ1 h1 => rw [hr] at w; exact w
  | ct δ1 h1 => rw [hr] at w; exact w
  | bad => rw [hr] at w; exact w
  | er c x δ1 h1 =>
    rw [hr] at w
    have w' : WS (Kp X kc pv) ι H W D (if c ∈ cs then hdlA hs c x δ1 h1 else .bad) := w
    split at w'
    · rename_i hc
      exact fun ι' σ' cv dx H' e rl' sl' rx => hdl_wma hex hh hsub hc rl' sl' rx (WS.ext e w')
    · exact w'.elim
/-! suites: return error.f; return (word, error.f) -/
theorem su_fld {i : Nat} {n fx qual : String} {fI a : Addr} {oe : Obj} {cls : Value} {d : Option Addr} {pn : List (Addr × Obj)} {e : Expr} {p1 p2 : Pos} (T : PySem.Err.Txt X.K X.mg n qual fx (kc (n : Str)) fI) (hz : Zc cls d oe) (hf : ∃ vs, oe.data = .fields vs) (he : PE (X.suite a ((a, oe) :: pn)) e (tVar i))
    (hb : attributeBase e (fx : Str) X.env (eval e X.env) = eval e X.env) : PSs (X.suite a ((a, oe) :: pn)) [.Return (some (.Attribute e (fx : Str) p1)) p2] (tsE X.K X.mg kc n fx i (fun x => x) a cls d) := by
  refine ⟨fun pins s σ H Dn I h => (pss_one (ps_ret (pe_fldErr (X := X) hz hf he hb))).run pins s σ H Dn I ?_⟩
  obtain ⟨pv, ι, g, x, v, dd, rl, h1, rfl, rfl, h3, off, rv, w⟩ := h
  exact ⟨.ref a, h1, rfl, n, qual, _, _, T, rfl, dd, v, rfl, h3, w ι v H .refl rl rv⟩
theorem su_tup {i : Nat} {n fx qual : String} {wd : Str} {fI a : Addr} {oe : Obj} {cls : Value} {d : Option Addr} {pn : List (Addr × Obj)} {e : Expr} {k kk} {p1 p2 p3 p4 : Pos} (T : PySem.Err.Txt X.K X.mg n qual fx (kc (n : Str)) fI) (hz : Zc cls d oe) (hf : ∃ vs, oe.data = .fields vs) (he : PE (X.suite a ((a, oe) :: pn)) e (tVar i))
    (hb : attributeBase e (fx : Str) X.env (eval e X.env) = eval e X.env)
    (hs1 : starEach [.Constant (.str wd) kk p3, .Attribute e (fx : Str) p1] X.env = (false, eval (.Constant (.str wd) kk p3) X.env) :: starEach [.Attribute e (fx : Str) p1] X.env := by rfl)
    (hs2 : starEach [.Attribute e (fx : Str) p1] X.env = (false, eval (.Attribute e (fx : Str) p1) X.env) :: starEach [] X.env := by rfl) :
    PSs (X.suite a ((a, oe) :: pn)) [.Return (some (.Tuple [.Constant (.str wd) kk p3, .Attribute e (fx : Str) p1] k p4)) p2] (tsE X.K X.mg kc n fx i (fun x => .tup [.str wd, x]) a cls d) := by
  refine ⟨fun pins s σ H Dn I h => (pss_one (ps_ret (pe_tup (pa_cons pe_str (pa_cons (pe_fldErr (X := X) hz hf he hb) pa_nil hs2) hs1)))).run pins s σ H Dn I ?_⟩
  obtain ⟨pv, ι, g, x, v, dd, rl, h1, rfl, rfl, h3, off, rv, w⟩ := h
  refine ⟨.ref a, h1, rfl, n, qual, _, _, T, rfl, dd, v, rfl, h3, by show 2 ≤ sizeLine; decide, fun p np => ?_⟩
  exact w ι _ _ (ext_new rl np _) (rl.new np _) (new_tup rl np (by show 2 ≤ sizeLine; decide) (.cons rfl (.one rv)))
end
/-! ### properties -/
section
variable {X : Cx} {kc : Str → Addr} {W : WX} {e : Expr} {ae : AEx} {pos : Pos} {k : Nat} {f g : Str} {c : Str}
structure PrpA (P : Program) (w : World) (K : PySem.W.Frag) (mg : Str → Option Value) (base : Heap) (C : Addr) (f g : Str) : Prop where
  ex : ∃ p a fd, PropOf K C f p a ∧ FnOk P w K mg base CX0 1 a fd ["self"] (getSp C g) ∧ Binds K fd ["self"] []
/-- e.f, f a property that hands back the field g -/
theorem a_prp (h : PrpA X.prog X.w X.K X.mg X.base (kc c) f g) (cl : Cls X.K (kc c)) (hr : Room k X.A) (hk : 2 ≤ k) (he : AE X kc W e ae) (hab : attributeBase e f X.env (eval e X.env) = eval e X.env := by rfl) : AE X kc W (.Attribute e f pos) (aFld [c] g ae) := by
  obtain ⟨p, a, fd, hp, F, b⟩ := h.ex
  refine .of (pe_prop (ds := []) (dvs := []) (E := E0) he cl hp F (hr.mono hk) b .nil pass0 hab) fun pv ι σ H δ g' Q rl sl w => ⟨pv, ι, δ, g', rl, sl, (WG.bind w).imp fun v H1 hx => ?_⟩
  obtain ⟨ι1, d, h1, e1, rl1, rp1, w1⟩ := hx
  split at w1
  · rename_i c' fs ds hi
    split at w1
    · rename_i hc
      obtain rfl := List.mem_singleton.mp hc
      split at w1
      · rename_i d' hd
        obtain ⟨a', dx, vs, rfl, h2, h3, h4, h5⟩ := ins_of rl1 rp1 hi
        obtain ⟨u, hu, ru⟩ := lk_rep h5 hd
        exact ⟨a', dx, _, rfl, h2, a', dx, _, u, rfl, h2, hu, w1 ι1 _ H1 .refl rl1 ru⟩
      · exact w1.elim
    · exact w1.elim
  · exact w1.elim
end
end Mr
namespace Mr
open PySem PySem.Spec PyProof.Rows L2 Aq
theorem hu64 {k : Nat} {A : Around} (r : Room k A) : A.units + 64 < cLine := r.units
section
variable {X : Cx} {kc : Str → Addr} {W : WX} {o e : Expr} {es : List Expr} {ao ae : AEx} {t : AAs} {pos apos cpos : Pos}
/-- xs.append(e), xs a cell -/
def aApp (o a : AEx) : AEx := fun δ h => (o δ h).bind fun x h1 => match x with
  | .ref n => match h1[n]?.bind Cell.lst? with
    | some _ => (a δ h1).bind fun d h2 => match h2[n]?.bind Cell.lst? with
      | some xs => if xs.length < 1000000 then .ok .non (h2.set n (.lst (xs ++ [d]))) else .bad
      | none => .bad
    | none => .bad
  | _ => .bad
theorem a_app (ho : AE X kc W o ao) (ha : AE X kc W e ae)
    (hbase : attributeBase o "append" X.env (eval o X.env) = eval o X.env := by rfl)
    (hfew : ((backTo cpos (starEach [e] X.env)).all (fun x => !x.1) && (backToKw cpos (keywordEach [] X.env)).all (fun x => x.1.isSome)
      && decide ([e].length + ([] : List Keyword).length + (if ([] : List Keyword).isEmpty then 0 else 1) < 30)) = true := by rfl)
    (hline : (apos.endLine == cpos.line) = true := by rfl) (hs : starEach [e] X.env = (false, eval e X.env) :: starEach [] X.env := by rfl) (hplain : (backTo cpos (starEach [] X.env)).any (·.1) = false := by rfl) :
    AE X kc W (.Call (.Attribute o "append" apos) [e] [] cpos) (aApp ao ae) :=
  .of (pe_bm PySem.F.plainAttrs_list PySem.F.slot_list_append PySem.F.type_list_append mt_append ho (pa_cons ha pa_nil hs) hbase hfew hline hs hplain) fun pv ι σ H δ g Q rl sl w => by
  refine ⟨pv, ι, δ, g, rl, sl, (WG.bind w).imp fun x H1 hx => ?_⟩
  obtain ⟨ι1, d1, h1, e1, rl1, rp1, w1⟩ := hx
  cases d1 with
  | ref n =>
    dsimp only at w1
    split at w1
    · rename_i ys hy
      obtain ⟨a, vs, rfl, ha, h3, h4, h5⟩ := cell_lst rl1 rp1 hy
      refine ⟨.inl ⟨rfl, vs, .inl (.inl h3)⟩, pv, ι1, δ, h1, rl1, sl.ext e1, (WG.bind w1).imp fun y H2 hy2 => ?_⟩
      obtain ⟨ι2, d2, h2, e2, rl2, rp2, w2⟩ := hy2
      split at w2
      · rename_i xs hxs
        split at w2
        · rename_i hl
          obtain ⟨a2, vs2, ea, ha2, k3, k4, k5⟩ := cell_lst rl2 (rp1.ext e2) hxs
          cases ea
          have en := ext_set rl2 ha2 (.lst (vs2 ++ [y]))
          have hl2 : vs2.length < 1000000 := by rw [← k5.length]; exact hl
          refine ⟨a, vs2, y, rfl, rfl, k3, Nat.lt_trans hl2 (by decide), ?_⟩
          refine w2 ι2 _ _ en (rl2.set ha2 ⟨_, upd_same, ?_, (k5.append (.one rp2)).ext en⟩) rfl
          rw [List.length_append]
          exact Nat.le_trans (Nat.succ_le_of_lt hl2) (by decide)
        · exact w2.elim
      · exact w2.elim
    · exact w1.elim
  | _ => exact w1.elim
/-- xs.reverse() -/
def aRev (o : AEx) : AEx := fun δ h => (o δ h).bind fun x h1 => match x with
  | .ref n => match h1[n]?.bind Cell.lst? with
    | some xs => .ok .non (h1.set n (.lst xs.reverse))
    | none => .bad
  | _ => .bad
/-- list(range(n)), tuple(range(n)) -/
def aRg (tup : Bool) (a : AEx) : AEx := fun δ h => (a δ h).bind fun x h1 => match x with
  | .int n => if decide (n ≤ 16777216 ∧ -16777216 ≤ n) then .ok (if tup then .tup (rgD 0 n.toNat) else .vl (rgD 0 n.toNat)) h1 else .bad
  | _ => .bad
theorem rgV_rep {C : Kc} {ι : List Addr} {H : Hp} (n : Int) : RepL C ι H (rgD 0 n.toNat) (rgV 0 n) := by
  unfold rgD rgV
  have : ∀ l : List Nat, RepL C ι H (l.map fun i => D.int (0 + (i : Nat))) (l.map fun i => V.int (0 + (i : Nat))) := fun l => by
    induction l with
    | nil => exact rfl
    | cons i l ih => exact .cons rfl ih
  rw [Int.sub_zero]
  exact this _
theorem rg_ok {n : Int} (h : n ≤ 16777216 ∧ -16777216 ≤ n) : RgOk 0 n := ⟨by omega, by omega, by omega, by omega, by omega⟩
theorem a_lrg {p p2 p3 : Pos} (hc : X.calm = true) (hg : Gl X "list") (hm : X.mg "list" = none) (hg2 : Gl X "range") (hm2 : X.mg "range" = none) (ha : AE X kc W e ae)
    (na2 : starEach [e] X.env = (false, eval e X.env) :: starEach [] X.env := by rfl) (na : starEach [.Call (.Name "range" p2) [e] [] p3] X.env = (false, eval (.Call (.Name "range" p2) [e] [] p3) X.env) :: starEach [] X.env := by rfl) :
    AE X kc W (.Call (.Name "list" p) [.Call (.Name "range" p2) [e] [] p3] [] pos) (aRg false ae) := .of (pe_listRg hc hg hm (prg_1 hg2 hm2 ha na2) na) fun pv ι σ H δ g Q rl sl w => by
  refine ⟨pv, ι, δ, g, rl, sl, (WG.bind w).imp fun x H1 hx => ?_⟩
  obtain ⟨ι1, d1, h1, e1, rl1, rp1, w1⟩ := hx
  split at w1
  · rename_i n
    split at w1
    · rename_i hn
      have hn' := of_decide_eq_true (show decide (n ≤ 16777216 ∧ -16777216 ≤ n) = true from hn)
      refine ⟨n, rp1, rg_ok hn', fun q nq => w1 ι1 _ _ (ext_new rl1 nq _) (rl1.new nq _) (new_vl rl1 nq ?_ (rgV_rep n))⟩
      rw [rgV_length]
      have : sizeLine = 16777216 := sizeLine_eq
      omega
    · exact w1.elim
  · exact w1.elim
theorem a_trg {p p2 p3 : Pos} (hc : X.calm = true) (hg : Gl X "tuple") (hm : X.mg "tuple" = none) (hg2 : Gl X "range") (hm2 : X.mg "range" = none) (ha : AE X kc W e ae)
    (na2 : starEach [e] X.env = (false, eval e X.env) :: starEach [] X.env := by rfl) (na : starEach [.Call (.Name "range" p2) [e] [] p3] X.env = (false, eval (.Call (.Name "range" p2) [e] [] p3) X.env) :: starEach [] X.env := by rfl) :
    AE X kc W (.Call (.Name "tuple" p) [.Call (.Name "range" p2) [e] [] p3] [] pos) (aRg true ae) := .of (pe_tupRg hc hg hm (prg_1 hg2 hm2 ha na2) na) fun pv ι σ H δ g Q rl sl w => by
  refine ⟨pv, ι, δ, g, rl, sl, (WG.bind w).imp fun x H1 hx => ?_⟩
  obtain ⟨ι1, d1, h1, e1, rl1, rp1, w1⟩ := hx
  split at w1
  · rename_i n
    split at w1
    · rename_i hn
      have hn' := of_decide_eq_true (show decide (n ≤ 16777216 ∧ -16777216 ≤ n) = true from hn)
      refine ⟨n, rp1, rg_ok hn', fun q nq => w1 ι1 _ _ (ext_new rl1 nq _) (rl1.new nq _) (new_tup rl1 nq ?_ (rgV_rep n))⟩
      rw [rgV_length]
      have : sizeLine = 16777216 := sizeLine_eq
      omega
    · exact w1.elim
  · exact w1.elim
end
/-- a def of which nothing is promised (a recursion's floor) -/
theorem calA_bad {P : Program} {w : World} {K : PySem.W.Frag} {mg : Str → Option Value} {base : Heap} {kc : Str → Addr} {k : Nat} {x : Str} {st : Stmt} {N ps : List Str} (D : Df K mg x st ps) (S : FnScope N ps (defScope st)) : CalA P w K mg base kc (k + 1) x (fun _ _ => .bad) :=
  D.calX S (fun vs H Q E h => by
    obtain ⟨pv, ι, ds, g, rl, rp, w⟩ := h
    exact w.elim) fun f cdv A outer s H vs Q E hr h => by
    obtain ⟨pv, ι, ds, g, rl, rp, w⟩ := h
    exact w.elim
end Mr
set_option maxHeartbeats 4000000
/-! zip(t, l), t a tuple, l a list -/
namespace Mr
open PySem PySem.Spec PyProof.Rows L2 Aq
def ItzM (K : PySem.W.Frag) (a b : Addr) : It :=
  ⟨fun i H => ∃ (xs ys : List V) (x y : V), SqT K H a xs ∧ SqL K H b ys ∧ xs[i]? = some x ∧ ys[i]? = some y,
    fun i H v H' => ∃ T x y, v = .ref T ∧ H T = none ∧ H' = upd H T (.tup [x, y]) ∧ (∀ xs, SqT K H a xs → xs[i]? = some x) ∧ ∀ ys, SqL K H b ys → ys[i]? = some y,
    fun i H => ∃ xs ys : List V, SqT K H a xs ∧ SqL K H b ys ∧ i ≤ xs.length ∧ i ≤ ys.length ∧ (xs.length = i ∨ ys.length = i)⟩
/-- the five cells of the zip lie apart from the sequences -/
structure Ap (z TI TO i1 i2 a b : Addr) : Prop where
  S : ZipSep2 z TI TO i1 i2 [i1, a] [i2, b]
  ai : a ≠ i1
  bi : b ≠ i2
theorem turn_zipM {P : Program} {w : World} {K : PySem.W.Frag} {elts : List Expr} {kk : Nat} {tpos : Pos} {a b z TI TO i1 i2 : Addr} (D : Ap z TI TO i1 i2 a b) :
    Turn P w K (.Tuple elts kk tpos) (ItzM K a b) [z, TI, TO, i1, i2] z (fun i h => IsZip h z TI TO .none ∧ IsTupOf2 h TI (.ref i1) (.ref i2) ∧ (∃ x y, IsTupOf2 h TO x y) ∧ h.IsTupleIter i1 a i ∧ h.IsListIter i2 b i) where
  mem := by simp
  obj := fun i h st c hc => by
    obtain ⟨hz, hTI, ⟨x, y, hTO⟩, ⟨o1, e1, _, d1⟩, ⟨o2, e2, _, d2⟩⟩ := st
    have e' : c = z ∨ c = TI ∨ c = TO ∨ c = i1 ∨ c = i2 := by simpa using hc
    rcases e' with q | q | q | q | q
    · rw [q]; exact ⟨_, hz, fun v q => nomatch q⟩
    · rw [q]; exact ⟨_, hTI, fun v q => nomatch q⟩
    · rw [q]; exact ⟨_, hTO, fun v q => nomatch q⟩
    · rw [q]; exact ⟨o1, e1, fun v q => by rw [d1] at q; cases q⟩
    · rw [q]; exact ⟨o2, e2, fun v q => by rw [d2] at q; cases q⟩
  keep := fun i h h' st k => by
    obtain ⟨hz, hTI, ⟨x, y, hTO⟩, h1, h2⟩ := st
    exact ⟨k z (by simp) _ hz, k TI (by simp) _ hTI, ⟨x, y, k TO (by simp) _ hTO⟩, h1.at fun o q => k i1 (by simp) o q, h2.at fun o q => k i2 (by simp) o q⟩
  item := by
    intro X hP hw hK hc i pins s σ H E I hf st hg
    subst hP hw hK
    obtain ⟨hz, hTI, ⟨x0, y0, hTO⟩, h1, h2⟩ := st
    obtain ⟨xs, ys, x, y, hqx, hqy, hx, hy⟩ := hg
    obtain ⟨its, rv, p, _⟩ := I.tuple hqx
    obtain ⟨its2, rv2, p2, _⟩ := I.list hqy
    obtain ⟨u, hu, ru⟩ := rv.get hx
    obtain ⟨u2, hu2, ru2⟩ := rv2.get hy
    have hzl : z < s.heap.objs.size := Heap.lt_size hz
    have hh := I.ok.hd hc
    have D1 := Draws.tuple (prog := X.prog) (w := X.w) (A := X.A.in1) hh i1 a D.ai its.toArray
    have D2 := Draws.list (prog := X.prog) (w := X.w) (A := X.A.in1) hh i2 b D.bi its2.toArray
    refine wpAny_pyNext_zipD2_item D.S D1 D2 hz hTI hTO ⟨h1, p⟩ ⟨h2, p2.isList⟩ (by have := (List.getElem?_eq_some_iff.mp hu).1; simpa using this) (by have := (List.getElem?_eq_some_iff.mp hu2).1; simpa using this) fun v1 v2 h' tk y1 y2 z' TO' s1' s2' hT hsz hk => ?_
    have ev1 : v1 = u := by
      have q : its.toArray[i]? = some u := by simpa using hu
      have y1' : its.toArray[i]? = some v1 := y1
      rw [q] at y1'
      exact (Option.some.inj y1').symm
    have ev2 : v2 = u2 := by
      have q : its2.toArray[i]? = some u2 := by simpa using hu2
      have y2' : its2.toArray[i]? = some v2 := y2
      rw [q] at y2'
      exact (Option.some.inj y2').symm
    subst ev1 ev2
    refine ⟨_, rfl, wpAny_letOwnedTupleGo_zip (s := { s with heap := h', toks := tk }) z' fun h'' z'' sb => ?_⟩
    have hT2 : h''.get? s.heap.objs.size = some { cls := .type "tuple", data := .seq #[v1, v2] } := (sb.2 _ (Nat.ne_of_gt hzl)).trans hT
    have new : ObjOk X.prog X.w (upd H s.heap.objs.size (.tup [x, y])) h'' s.heap.objs.size (.tup [x, y]) :=
      ⟨by show 2 ≤ sizeLine; decide, [v1, v2], .cons ru (.cons ru2 .nil), ⟨_, hT2, rfl, _, rfl⟩⟩
    have I1 : Inv X pins σ (upd H s.heap.objs.size (.tup [x, y])) { s with heap := h'', toks := tk } :=
      I.turnedNew (t' := tk) (ch := [z, TI, TO, i1, i2]) (fun c o hb q => (sb.2 c (fun q' => hb (by simp [q']))).trans (hk c o (fun q' => hb (by simp [q'])) (fun q' => hb (by simp [q'])) (fun q' => hb (by simp [q'])) (fun q' => hb (by simp [q'])) q)) hf (Nat.le_refl _) new
    refine ⟨.ref s.heap.objs.size, _, I1, rfl, ⟨_, x, y, rfl, I.hok.fresh (Nat.le_refl _), rfl, fun l hl => by rw [I.tuple_inj hl hqx]; exact hx, fun l hl => by rw [I.list_inj hl hqy]; exact hy⟩, ⟨z'', ?_, ⟨v1, v2, ?_⟩, ?_, ?_⟩, fun c hcm => ?_⟩
    · exact (sb.2 _ D.S.TIz).trans (hk _ _ D.S.TIz D.S.TITO D.S.TIi1 D.S.TIi2 hTI)
    · exact (sb.2 _ D.S.TOz).trans TO'
    · exact s1'.1.at fun o q => (sb.2 _ (Ne.symm D.S.zi1)).trans q
    · exact s2'.1.at fun o q => (sb.2 _ (Ne.symm D.S.zi2)).trans q
    · have hlt : c < s.heap.objs.size := by
        have e' : c = z ∨ c = TI ∨ c = TO ∨ c = i1 ∨ c = i2 := by simpa using hcm
        rcases e' with q | q | q | q | q
        · rw [q]; exact hzl
        · rw [q]; exact Heap.lt_size hTI
        · rw [q]; exact Heap.lt_size hTO
        · rw [q]; obtain ⟨_, e1, _⟩ := h1; exact Heap.lt_size e1
        · rw [q]; obtain ⟨_, e2, _⟩ := h2; exact Heap.lt_size e2
      rw [upd_ne (Nat.ne_of_lt hlt)]
      exact (hf c hcm).1
  done := by
    intro X hP hw hK hc i pins s σ H E I hf st hg
    subst hP hw hK
    obtain ⟨hz, hTI, ⟨x0, y0, hTO⟩, h1, h2⟩ := st
    obtain ⟨xs, ys, hqx, hqy, l1, l2, hend⟩ := hg
    obtain ⟨its, rv, p, _⟩ := I.tuple hqx
    obtain ⟨its2, rv2, p2, _⟩ := I.list hqy
    have e1 := rv.length
    have e2 := rv2.length
    have hh := I.ok.hd hc
    have D1 := Draws.tuple (prog := X.prog) (w := X.w) (A := X.A.in1) hh i1 a D.ai its.toArray
    have D2 := Draws.list (prog := X.prog) (w := X.w) (A := X.A.in1) hh i2 b D.bi its2.toArray
    refine wpAny_pyNext_zipD2_end D.S D1 D2 hz hTI hTO ⟨h1, p⟩ ⟨h2, p2.isList⟩ (by simp; omega) (by simp; omega) ?_ fun h' tk hk => ⟨rfl, I.turnedL (t' := tk) (ch := [z, TI, TO, i1, i2]) (fun c o hb q =>
      hk c o (fun q' => hb (by simp [q'])) (fun q' => hb (by simp [q'])) (fun q' => hb (by simp [q'])) (fun q' => hb (by simp [q'])) q) hf⟩
    rcases hend with q | q
    · exact .inl (by simp; omega)
    · exact .inr (by simp; omega)
  self := fun A i s Q E st h => wpAny_pyIter_zip st.1 h
end Mr
/-! zip over a tuple and a list, over two lists, over two tuples -/
namespace Mr
open PySem PySem.Spec PyProof.Rows L2 Aq
def iZipB (K : PySem.W.Frag) (ta : TA) : TI := fun σ H R => ta σ H fun vs H1 => ∃ a b xs ys, vs = [.ref a, .ref b] ∧ SqT K H1 a xs ∧ SqL K H1 b ys ∧ R (ItzM K a b) H1
theorem pi_zipB {X : Cx} {e e2 : Expr} {ta : TA} {p pos tpos : Pos} {elts : List Expr} {kk : Nat} (hg : Gl X "zip") (hm : X.mg "zip" = none) (ha : PA X [e, e2] ta)
    (hs : starEach [e, e2] X.env = (false, eval e X.env) :: starEach [e2] X.env := by rfl) (hpl : (backTo pos (starEach [e2] X.env)).any (·.1) = false := by rfl) :
    PI X (.Tuple elts kk tpos) (.Call (.Name "zip" p) [e, e2] [] pos) (iZipB X.K ta) := by
  refine ⟨fun pins s σ H R I hw => ?_⟩
  refine Call_ (ld_blt I hg hm PyProof.Rows.boot_zip (PyProof.Rows.callWith_type1 (thn (ha.run pos pins s σ H _ I hw) fun us s2 hu => ?_) hs hpl))
  obtain ⟨vs, H2, I2, rv, a, b, xs, ys, ev, qx, qy, qr⟩ := hu
  subst ev
  obtain ⟨u1, us1, eu, r1, rr⟩ : ∃ u w, us = u :: w ∧ RelV (.ref a) u ∧ Vals [.ref b] w := by
    cases rv with
    | cons r rr => exact ⟨_, _, rfl, r, rr⟩
  obtain ⟨u2, eu2, r2⟩ : ∃ u, us1 = [u] ∧ RelV (.ref b) u := by
    cases rr with
    | cons r rr =>
      cases rr
      exact ⟨_, rfl, r⟩
  cases r1
  cases r2
  subst eu2
  subst eu
  obtain ⟨its, rvx, px, _⟩ := I2.tuple qx
  obtain ⟨jts, rvy, py, _⟩ := I2.list qy
  have la : a < s2.heap.objs.size := by
    obtain ⟨o1, ho1, _⟩ := id px
    exact Heap.lt_size ho1
  have lb : b < s2.heap.objs.size := py.lt
  have old : ∀ c, c ∈ [s2.heap.objs.size + 4, s2.heap.objs.size + 2, s2.heap.objs.size + 3, s2.heap.objs.size, s2.heap.objs.size + 1] → FpOk X pins H2 c := fun c hcm => by
    have hle : s2.heap.objs.size ≤ c := by
      simp only [List.mem_cons, List.not_mem_nil, or_false] at hcm
      rcases hcm with z | z | z | z | z <;> rw [z]
      · exact Nat.le_add_right _ _
      · exact Nat.le_add_right _ _
      · exact Nat.le_add_right _ _
      · exact Nat.le_refl _
      · exact Nat.le_add_right _ _
    exact I2.fpOk hle (I2.hok.fresh hle)
  refine zip_begins2 (begins_tuple a its.toArray) (begins_list b jts.toArray) (show s2.heap.IsTuple a its.toArray from px) py.isList fun h' hz hTI hTO e1 e2 hsz hk => wpAny_pyIter_zip hz ?_
  have I3 : Inv X pins σ H2 { s2 with heap := h' } := I2.kept (t' := s2.toks) hk
  refine ⟨s2.heap.objs.size + 4, [s2.heap.objs.size + 4, s2.heap.objs.size + 2, s2.heap.objs.size + 3, s2.heap.objs.size, s2.heap.objs.size + 1], _, _, H2, rfl, I3, turn_zipM ⟨zip_sep2 (fp1 := [a]) (fp2 := [b]) ?_ ?_, Nat.ne_of_lt la, ?_⟩, ⟨hz, hTI, ⟨_, _, hTO⟩, ⟨_, e1, rfl, rfl⟩, ⟨_, e2, rfl, rfl⟩⟩, old, qr⟩
  · intro c hc
    rw [List.mem_singleton.mp hc]
    exact la
  · intro c hc
    rw [List.mem_singleton.mp hc]
    exact lb
  · exact Nat.ne_of_lt (Nat.lt_succ_of_lt lb)
/-! the mirrors -/
def zipD (xs ys : List D) : List D := xs.zipWith (fun a b => D.tup [a, b]) ys
def isTup : D → Bool
  | .tup _ => true
  | _ => false
def iZip2 (l r : Bool) (t : AAs) : ASrc := fun δ h => (t δ h).bind fun ds h1 => match ds with
  | [x, y] => if isTup x = l ∧ isTup y = r then match srcOf h1 x, srcOf h1 y with
    | some s, some u => .ok ⟨zipD s.items u.items, s.at_ ++ u.at_⟩ h1
    | _, _ => .bad
    else .bad
  | _ => .bad
section
variable {C : Kc} {X : Cx} {kc : Str → Addr} {W : WX} {tg iter : Expr}
theorem src_L {ι0 : List Addr} {H0 : Hp} {h0 : AH} {x : D} {v : V} {s : Src} (rl0 : Rel C ι0 H0 h0) (r : RepV C ι0 H0 x v) (hx : isTup x = false) (e : srcOf h0 x = some s) : ∃ a xs, v = .ref a ∧ SqL C.K H0 a xs ∧ ∀ (q : List Addr) ι H h, (∀ p ∈ q, H0 p = none) → Ext ι0 H0 ι H → Rel (C.mores q) ι H h → s.ok h → ∃ vs, SqL C.K H a vs ∧ RepL (C.mores q) ι H s.items vs := by
  cases x with
  | tup ds => cases hx
  | vl ds =>
    cases (show some (⟨ds, []⟩ : Src) = some s from e)
    obtain ⟨a, vs, rfl, h1, h2, h3, h4⟩ := r.vl
    exact ⟨a, vs, rfl, .inl (.inl h1), fun q ι H h hq ex rl ok => ⟨vs, .inl (.inl (ex.keep _ _ h2.1 h1)), (h4.mores hq).ext ex⟩⟩
  | ref n =>
    have e' : (match h0[n]? with
      | some (.lst ds) => some (⟨ds, [(n, .lst ds)]⟩ : Src)
      | some (.ro ds) => some ⟨ds, [(n, .ro ds)]⟩
      | _ => none) = some s := e
    split at e'
    · rename_i ds hc
      cases e'
      obtain ⟨a, rfl, ha, vs, h1, _⟩ := rl0.at r hc
      refine ⟨a, vs, rfl, .inl (.inl h1), fun q ι H h hq ex rl ok => ?_⟩
      obtain ⟨b, hb, ws, h2, _, h3⟩ := rl.cell n _ (ok (n, .lst ds) List.mem_cons_self)
      rw [pre_get ex.pre ha] at hb
      cases hb
      exact ⟨ws, .inl (.inl h2), h3⟩
    · rename_i ds hc
      cases e'
      obtain ⟨a, rfl, ha, vs, o, h1, _⟩ := rl0.at r hc
      refine ⟨a, vs, rfl, .inl (.inr ⟨o, h1⟩), fun q ι H h hq ex rl ok => ?_⟩
      obtain ⟨b, hb, ws, o', h2, _, h3⟩ := rl.cell n _ (ok (n, .ro ds) List.mem_cons_self)
      rw [pre_get ex.pre ha] at hb
      cases hb
      exact ⟨ws, .inl (.inr ⟨o', h2⟩), h3⟩
    · cases e'
  | _ => cases e
theorem src_T {ι0 : List Addr} {H0 : Hp} {h0 : AH} {x : D} {v : V} {s : Src} (rl0 : Rel C ι0 H0 h0) (r : RepV C ι0 H0 x v) (hx : isTup x = true) (e : srcOf h0 x = some s) : ∃ a xs, v = .ref a ∧ SqT C.K H0 a xs ∧ ∀ (q : List Addr) ι H h, (∀ p ∈ q, H0 p = none) → Ext ι0 H0 ι H → Rel (C.mores q) ι H h → s.ok h → ∃ vs, SqT C.K H a vs ∧ RepL (C.mores q) ι H s.items vs := by
  cases x with
  | tup ds =>
    cases (show some (⟨ds, []⟩ : Src) = some s from e)
    obtain ⟨a, vs, rfl, h1, h2, h3, h4⟩ := r.tup
    exact ⟨a, vs, rfl, .inl (.inl h1), fun q ι H h hq ex rl ok => ⟨vs, .inl (.inl (ex.keep _ _ h2.1 h1)), (h4.mores hq).ext ex⟩⟩
  | _ => cases hx
theorem zip_get {xs ys : List D} {i : Nat} {d : D} (h : (zipD xs ys)[i]? = some d) : ∃ x y, xs[i]? = some x ∧ ys[i]? = some y ∧ d = .tup [x, y] := by
  unfold zipD at h
  rw [List.getElem?_zipWith] at h
  split at h
  · rename_i a b ha hb
    cases h
    exact ⟨a, b, ha, hb, rfl⟩
  · cases h
theorem zip_len (xs ys : List D) : (zipD xs ys).length = min xs.length ys.length := by
  unfold zipD
  rw [List.length_zipWith]
theorem ok_app {s u : Src} {h : AH} {l : List D} (k : Src.ok ⟨l, s.at_ ++ u.at_⟩ h) : s.ok h ∧ u.ok h := ⟨fun p m => k p (List.mem_append_left _ m), fun p m => k p (List.mem_append_right _ m)⟩
/-- the items in new pairs -/
theorem isSrc_z {A B : Hp → Addr → List V → Prop} {J : It} {ι0 : List Addr} {H0 : Hp} {a b : Addr} {s u : Src}
    (hs : ∀ (q : List Addr) ι H h, (∀ p ∈ q, H0 p = none) → Ext ι0 H0 ι H → Rel (C.mores q) ι H h → s.ok h → ∃ vs, A H a vs ∧ RepL (C.mores q) ι H s.items vs)
    (hu : ∀ (q : List Addr) ι H h, (∀ p ∈ q, H0 p = none) → Ext ι0 H0 ι H → Rel (C.mores q) ι H h → u.ok h → ∃ vs, B H b vs ∧ RepL (C.mores q) ι H u.items vs)
    (go : ∀ i H xs ys x y, A H a xs → B H b ys → xs[i]? = some x → ys[i]? = some y → J.go i H)
    (yld : ∀ i H v H', J.yld i H v H' → ∃ T x y, v = .ref T ∧ H T = none ∧ H' = upd H T (.tup [x, y]) ∧ (∀ xs, A H a xs → xs[i]? = some x) ∧ ∀ ys, B H b ys → ys[i]? = some y)
    (stop : ∀ i H xs ys, A H a xs → B H b ys → i ≤ xs.length → i ≤ ys.length → (xs.length = i ∨ ys.length = i) → J.stop i H) : IsSrc C ι0 H0 J ⟨zipD s.items u.items, s.at_ ++ u.at_⟩ where
  go q ι H h i d hq e rl ok hd := by
    obtain ⟨k1, k2⟩ := ok_app ok
    obtain ⟨vs, h1, h2⟩ := hs q ι H h hq e rl k1
    obtain ⟨ws, h3, h4⟩ := hu q ι H h hq e rl k2
    obtain ⟨x, y, hx, hy, rfl⟩ := zip_get hd
    obtain ⟨v, hv, rv⟩ := h2.get hx
    obtain ⟨w, hw, rw_⟩ := h4.get hy
    refine ⟨go i H vs ws v w h1 h3 hv hw, fun z H' yl => ?_⟩
    obtain ⟨T, v', w', rfl, nT, rfl, ha, hb⟩ := yld i H z H' yl
    have e1 := ha vs h1
    have e2 := hb ws h3
    rw [hv] at e1
    rw [hw] at e2
    cases e1
    cases e2
    exact yld_pair (C := C.mores q) rl nT rv rw_
  stop q ι H h hq e rl ok := by
    obtain ⟨k1, k2⟩ := ok_app ok
    obtain ⟨vs, h1, h2⟩ := hs q ι H h hq e rl k1
    obtain ⟨ws, h3, h4⟩ := hu q ι H h hq e rl k2
    have l1 := h2.length
    have l2 := h4.length
    show J.stop (zipD s.items u.items).length H
    rw [zip_len]
    exact stop _ H vs ws h1 h3 (by omega) (by omega) (by omega)
theorem i_zipTL {t : AAs} (hp : PI X tg iter (iZipB X.K (taA X.K kc W 2 t))) : AI X kc W tg iter (iZip2 true false t) := .of hp fun pv ι σ H δ g Q rl sl w =>
  ⟨pv, ι, δ, g, rl, sl, (WI.bind w).imp fun vs H1 ⟨ι1, ds, h1, e1, rl1, rp1, w1⟩ => by
    split at w1
    · rename_i x y
      split at w1
      · rename_i hxy
        split at w1
        · rename_i s u hs hu
          obtain ⟨v, v', rfl, r, r'⟩ := repL2 rp1.1
          obtain ⟨a, xs, rfl, q1, q2⟩ := src_T rl1 r hxy.1 hs
          obtain ⟨b, ys, rfl, q3, q4⟩ := src_L rl1 r' hxy.2 hu
          exact ⟨a, b, xs, ys, rfl, q1, q3, w1 ι1 _ H1 .refl rl1 (isSrc_z (A := SqT X.K) (B := SqL X.K) q2 q4 (fun i H xs ys x y h1 h2 h3 h4 => ⟨xs, ys, x, y, h1, h2, h3, h4⟩) (fun i H v H' z => z) (fun i H xs ys h1 h2 h3 h4 h5 => ⟨xs, ys, h1, h2, h3, h4, h5⟩))⟩
        · exact w1.elim
      · exact w1.elim
    · exact w1.elim⟩
theorem i_zipLL {t : AAs} (hp : PI X tg iter (RZ.iZipA X.K (taA X.K kc W 2 t))) : AI X kc W tg iter (iZip2 false false t) := .of hp fun pv ι σ H δ g Q rl sl w =>
  ⟨pv, ι, δ, g, rl, sl, (WI.bind w).imp fun vs H1 ⟨ι1, ds, h1, e1, rl1, rp1, w1⟩ => by
    split at w1
    · rename_i x y
      split at w1
      · rename_i hxy
        split at w1
        · rename_i s u hs hu
          obtain ⟨v, v', rfl, r, r'⟩ := repL2 rp1.1
          obtain ⟨a, xs, rfl, q1, q2⟩ := src_L rl1 r hxy.1 hs
          obtain ⟨b, ys, rfl, q3, q4⟩ := src_L rl1 r' hxy.2 hu
          exact ⟨a, b, xs, ys, rfl, .inl ⟨q1, q3, w1 ι1 _ H1 .refl rl1 (isSrc_z (A := SqL X.K) (B := SqL X.K) q2 q4 (fun i H xs ys x y h1 h2 h3 h4 => ⟨xs, ys, x, y, h1, h2, h3, h4⟩) (fun i H v H' z => z) (fun i H xs ys h1 h2 h3 h4 h5 => ⟨xs, ys, h1, h2, h5.imp (fun e => Nat.le_of_eq e) (fun e => Nat.le_of_eq e)⟩))⟩⟩
        · exact w1.elim
      · exact w1.elim
    · exact w1.elim⟩
theorem i_zipTT {t : AAs} (hp : PI X tg iter (RZ.iZipA X.K (taA X.K kc W 2 t))) : AI X kc W tg iter (iZip2 true true t) := .of hp fun pv ι σ H δ g Q rl sl w =>
  ⟨pv, ι, δ, g, rl, sl, (WI.bind w).imp fun vs H1 ⟨ι1, ds, h1, e1, rl1, rp1, w1⟩ => by
    split at w1
    · rename_i x y
      split at w1
      · rename_i hxy
        split at w1
        · rename_i s u hs hu
          obtain ⟨v, v', rfl, r, r'⟩ := repL2 rp1.1
          obtain ⟨a, xs, rfl, q1, q2⟩ := src_T rl1 r hxy.1 hs
          obtain ⟨b, ys, rfl, q3, q4⟩ := src_T rl1 r' hxy.2 hu
          exact ⟨a, b, xs, ys, rfl, .inr ⟨q1, q3, w1 ι1 _ H1 .refl rl1 (isSrc_z (A := SqT X.K) (B := SqT X.K) q2 q4 (fun i H xs ys x y h1 h2 h3 h4 => ⟨xs, ys, x, y, h1, h2, h3, h4⟩) (fun i H v H' z => z) (fun i H xs ys h1 h2 h3 h4 h5 => ⟨xs, ys, h1, h2, h5.imp (fun e => Nat.le_of_eq e) (fun e => Nat.le_of_eq e)⟩))⟩⟩
        · exact w1.elim
      · exact w1.elim
    · exact w1.elim⟩
end
end Mr
/-! the law's own def: its row of numbers, what its mirror tells -/
namespace Mr
open PySem PySem.Spec PyProof.Rows L2 Aq
def spLaw (K : PySem.W.Frag) : Sp := fun vs H Q _ => ∃ (a : Addr) (ns : List Int), vs = [.ref a] ∧ SqL K H a (ns.map V.int) ∧ ns.length ≤ 63 ∧ ∀ H', Q (.bl true) H'
/-- what a law's tail begins with: nothing known but the row -/
def δrow (n ri : Nat) (ms : List Int) : AEnv := (List.replicate n none).set ri (some (.vl (ms.map D.int)))
theorem rep_ints {C : Kc} {ι : List Addr} {H : Hp} : ∀ ms : List Int, RepL C ι H (ms.map D.int) (ms.map V.int)
  | [] => rfl
  | m :: ms => ⟨.int m, ms.map V.int, rfl, rfl, rep_ints ms⟩
theorem rel_nil {C : Kc} {H : Hp} (h : C.pv = []) : Rel C [] H [] := ⟨rfl, List.nodup_nil, fun a m => (by rw [h] at m; cases m), fun n c e => (by cases e)⟩
theorem slo_row {K : PySem.W.Frag} {kc : Str → Addr} {H : Hp} {N : List Str} {v : V} {p : Addr} {ms : List Int} {n ri : Nat} (hn : N.length = n) (h0 : 0 < n) (hp : H p = some (.lst (ms.map V.int))) (hl : ms.length ≤ 4000) :
    Slo ⟨K, kc, []⟩ [] H ((L2.start N [v]).set ri (some (.ref p))) (δrow n ri ms) := by
  refine ⟨?_, fun i d h => ?_⟩
  · unfold δrow L2.start
    rw [List.length_set, List.length_set, List.length_append, List.length_map, List.length_replicate, List.length_replicate]
    show 1 + (N.length - 1) = n
    omega
  · unfold δrow at h
    rw [List.getElem?_set] at h
    split at h
    · rename_i e
      subst e
      split at h
      · rename_i hlt
        cases h
        refine ⟨.ref p, ?_, p, ms.map V.int, rfl, hp, ⟨by simp, by simp⟩, by rw [List.length_map]; exact Nat.le_trans hl (by decide), rep_ints ms⟩
        rw [List.getElem?_set_self]
        unfold L2.start
        rw [List.length_append, List.length_map, List.length_replicate]
        rw [List.length_replicate] at hlt
        show ri < 1 + (N.length - 1)
        omega
      · cases h
    · rw [List.getElem?_replicate] at h
      split at h <;> cases h

/-- no error leaves the law's own def -/
theorem cx_false {P : Program} {w : World} {outer : List Env} {H : Hp} {s s' : Shared} {u : Value} (h : L2.CX P w outer H s (fun _ _ _ => False) u s') : False := by
  obtain ⟨_, _, _, _, _, _, _, _, _, _, _, _, h⟩ := h
  exact h
end Mr
/-! evaluation of mirrors -/
namespace Mr
open PySem PySem.Spec PyProof.Rows L2 Aq
section
variable {δ : AEnv} {h h1 : AH} {a b c : AEx} {t r : AAs} {d x y : D} {i j : Int} {n m : Nat} {xs ys : List D}
@[simp] theorem aVar_e : aVar n δ h = (match δ[n]? with
  | some (some d) => .ok d h
  | _ => .bad) := rfl
@[simp] theorem aC_e : aC d δ h = .ok d h := rfl
@[simp] theorem aNil_e : aNil δ h = .ok [] h := rfl
@[simp] theorem aCons_e : aCons a r δ h = (a δ h).bind fun d h1 => (r δ h1).bind fun ds h2 => .ok (d :: ds) h2 := rfl
@[simp] theorem aTup_e : aTup t δ h = (t δ h).bind fun ds h1 => .ok (.tup ds) h1 := rfl
@[simp] theorem aVl_e : aVl t δ h = (t δ h).bind fun ds h1 => .ok (.vl ds) h1 := rfl
@[simp] theorem aLs_e : aLs t δ h = (t δ h).bind fun ds h1 => .ok (.ref h1.length) (h1 ++ [.lst ds]) := rfl
@[simp] theorem aOp_e {op : D → D → AH → R D} : aOp op a b δ h = (a δ h).bind fun x h1 => (b δ h1).bind fun y h2 => op x y h2 := rfl
@[simp] theorem aCb_e {f : DF} : aCb f t δ h = (t δ h).bind fun ds h1 => f ds h1 := rfl
@[simp] theorem aCall_e {f : AF} : aCall f t δ h = (t δ h).bind fun ds h1 => f ds h1 := rfl
@[simp] theorem aCallK_e {f : AF} {tk : AAs} : aCallK f n m t tk δ h = (t δ h).bind fun ds h1 => (tk δ h1).bind fun zs h2 => if ds.length = n ∧ zs.length = m then f (ds ++ zs) h2 else .bad := rfl
@[simp] theorem aB_e : aB a δ h = boolR (a δ h) := rfl
@[simp] theorem boolR_ok {k : Bool} : boolR (.ok (.bl k) h) = .ok k h := rfl
@[simp] theorem boolR_er {s : Str} : boolR (.er s x h) = .er s x h := rfl
@[simp] theorem aAnd_e {s u : ATs} : aAnd s u δ h = (s δ h).bind fun k h1 => if k = true then u δ h1 else .ok false h1 := rfl
@[simp] theorem aOr_e {s u : ATs} : aOr s u δ h = (s δ h).bind fun k h1 => if k = true then .ok true h1 else u δ h1 := rfl
@[simp] theorem aNot_e {s : ATs} : aNot s δ h = (s δ h).bind fun k h1 => .ok (!k) h1 := rfl
@[simp] theorem aAndV_e : aAndV a b δ h = (boolR (a δ h)).bind fun k h1 => if k = true then b δ h1 else .ok (.bl false) h1 := rfl
@[simp] theorem aOrV_e : aOrV a b δ h = (boolR (a δ h)).bind fun k h1 => if k = true then .ok (.bl true) h1 else b δ h1 := rfl
@[simp] theorem aNotV_e : aNotV a δ h = (boolR (a δ h)).bind fun k h1 => .ok (.bl (!k)) h1 := rfl
@[simp] theorem aIf_e {s : ATs} : aIf s a b δ h = (s δ h).bind fun k h1 => if k = true then a δ h1 else b δ h1 := rfl
@[simp] theorem aNeg_e : aNeg a δ h = (a δ h).bind fun x h1 => match x with
  | .int i => .ok (.int (-i)) h1
  | _ => .bad := rfl
@[simp] theorem aChain_e {op op' : D → D → AH → R D} : aChain op op' a b c δ h = (a δ h).bind fun x h1 => (b δ h1).bind fun y h2 => (boolR (op x y h2)).bind fun k h3 => if k = true then (c δ h3).bind fun z h4 => op' y z h4 else .ok (.bl false) h3 := rfl
@[simp] theorem aYes_e : aYes δ h = .ok true h := rfl
@[simp] theorem aNo_e : aNo δ h = .ok none h := rfl
@[simp] theorem aPart_e : aPart a δ h = (a δ h).bind fun x h1 => match x with
  | .int i => .ok (some i) h1
  | _ => .bad := rfl
theorem aRg_ok {tup : Bool} (e : a δ h = .ok (.int i) h1) (h0 : 0 ≤ i) (hn : i ≤ 1000000) : aRg tup a δ h = .ok (if tup then .tup (rgD 0 i.toNat) else .vl (rgD 0 i.toNat)) h1 := by
  unfold aRg
  rw [e, R.bind_ok]
  show (if decide (i ≤ 16777216 ∧ -16777216 ≤ i) = true then _ else _) = _
  rw [if_pos (decide_eq_true ⟨by omega, by omega⟩)]
theorem call_e {f : AF} {rr : R D} (e : t δ h = .ok xs h1) (k : f xs h1 = rr) : aCall f t δ h = rr := by
  unfold aCall
  rw [e, R.bind_ok, k]
theorem cb_e {f : DF} {rr : R D} (e : t δ h = .ok xs h1) (k : f xs h1 = rr) : aCb f t δ h = rr := by
  unfold aCb
  rw [e, R.bind_ok, k]
theorem cons_e {h2 : AH} (e : a δ h = .ok d h1) (k : r δ h1 = .ok xs h2) : aCons a r δ h = .ok (d :: xs) h2 := by
  unfold aCons
  rw [e, R.bind_ok, k, R.bind_ok]
theorem op_e {op : D → D → AH → R D} {h2 : AH} {rr : R D} (e : a δ h = .ok x h1) (k : b δ h1 = .ok y h2) (o : op x y h2 = rr) : aOp op a b δ h = rr := by
  unfold aOp
  rw [e, R.bind_ok, k, R.bind_ok, o]
theorem tup_e (e : t δ h = .ok xs h1) : aTup t δ h = .ok (.tup xs) h1 := by
  unfold aTup
  rw [e, R.bind_ok]
theorem b_e {k : Bool} (e : a δ h = .ok (.bl k) h1) : aB a δ h = .ok k h1 := by
  unfold aB
  rw [e]
  rfl
@[simp] theorem aSl_vl {lo hi : AOx} {l u : Option Int} {h2 h3 : AH} (e : a δ h = .ok (.vl xs) h1) (e1 : lo δ h1 = .ok l h2) (e2 : hi δ h2 = .ok u h3) : aSl a lo hi δ h = .ok (.vl (cutD xs l u)) h3 := by
  unfold aSl
  rw [e, R.bind_ok, e1, R.bind_ok, e2, R.bind_ok]
  rfl
@[simp] theorem aSl_tup {lo hi : AOx} {l u : Option Int} {h2 h3 : AH} (e : a δ h = .ok (.tup xs) h1) (e1 : lo δ h1 = .ok l h2) (e2 : hi δ h2 = .ok u h3) : aSl a lo hi δ h = .ok (.tup (cutD xs l u)) h3 := by
  unfold aSl
  rw [e, R.bind_ok, e1, R.bind_ok, e2, R.bind_ok]
/-! operators -/
@[simp] theorem dSub_i : dSub (.int i) (.int j) h = .ok (.int (i - j)) h := rfl
@[simp] theorem dAdd_i : dAdd (.int i) (.int j) h = .ok (.int (i + j)) h := rfl
@[simp] theorem dLt_i : dLt (.int i) (.int j) h = .ok (.bl (decide (i < j))) h := rfl
@[simp] theorem dLe_i : dLe (.int i) (.int j) h = .ok (.bl (decide (i ≤ j))) h := rfl
@[simp] theorem dGt_i : dGt (.int i) (.int j) h = .ok (.bl (decide (j < i))) h := rfl
@[simp] theorem dGe_i : dGe (.int i) (.int j) h = .ok (.bl (decide (j ≤ i))) h := rfl
@[simp] theorem dMod_i (hj : 0 < j) : dMod (.int i) (.int j) h = .ok (.int (i % j)) h := by
  show (if decide (0 < j) = true then _ else _) = _
  rw [if_pos (decide_eq_true hj)]
@[simp] theorem dFdv_i (hj : 0 < j ∧ j < 1073741824) : dFdv (.int i) (.int j) h = .ok (.int (i / j)) h := by
  show (if decide (0 < j ∧ j < 1073741824) = true then _ else _) = _
  rw [if_pos (decide_eq_true hj)]
theorem dMul_i (hj : (-(2 ^ 64) < i ∧ i < 2 ^ 64) ∨ (-(2 ^ 64) < j ∧ j < 2 ^ 64)) : dMul (.int i) (.int j) h = .ok (.int (i * j)) h := by
  show (if decide _ = true then _ else _) = _
  rw [if_pos (decide_eq_true hj)]
theorem dMul_r (hj : -(2 ^ 64) < j ∧ j < 2 ^ 64) : dMul (.int i) (.int j) h = .ok (.int (i * j)) h := dMul_i (.inr hj)
@[simp] theorem dEq_i {neg : Bool} : dEq neg (.int i) (.int j) h = .ok (.bl (if neg then !decide (i = j) else decide (i = j))) h := by
  show (if SeqAt.shaped (.int i) && SeqAt.shaped (.int j) then R.ok (D.bl (if neg then !PyData.eqv (.int i) (.int j) else PyData.eqv (.int i) (.int j))) h else .bad) = _
  have e : PyData.eqv (.int i) (.int j) = decide (i = j) := by
    first | rfl | (show (i == j) = _; exact beq_eq_decide ..)
  rw [e]
  rfl
@[simp] theorem dIs_e {neg : Bool} : dIs neg x .non h = .ok (.bl (if neg then !isNon x else isNon x)) h := rfl
@[simp] theorem dInt_e : dInt [.int i] h = .ok (.int i) h := rfl
@[simp] theorem dMax2_e : dMax2 [.int i, .int j] h = .ok (.int (if j > i then j else i)) h := rfl
@[simp] theorem dMin2_e : dMin2 [.int i, .int j] h = .ok (.int (if j < i then j else i)) h := rfl
@[simp] theorem dLen_vl : dLen [.vl xs] h = .ok (.int xs.length) h := rfl
@[simp] theorem dLen_tup : dLen [.tup xs] h = .ok (.int xs.length) h := rfl
theorem dLen_ref (e : h[n]? = some (.lst xs)) : dLen [.ref n] h = .ok (.int xs.length) h := by
  show (match seqOf h (.ref n) with | some xs => R.ok (D.int xs.length) h | none => .bad) = _
  show (match h[n]?.bind Cell.seq? with | some xs => R.ok (D.int xs.length) h | none => .bad) = _
  rw [e]
  rfl
theorem atI_nat {α : Type} {zs : List α} {z : α} (h0 : 0 ≤ i) (e : zs[i.toNat]? = some z) : atI zs i = some z := by
  have hl := (List.getElem?_eq_some_iff.mp e).1
  unfold atI ixN
  rw [if_pos h0, if_pos (by omega)]
  exact e
theorem dIx_vl (h0 : 0 ≤ i) (e : xs[i.toNat]? = some d) : dIx (.vl xs) (.int i) h = .ok d h := by
  show (match atI xs i with | some d => R.ok d h | none => .bad) = _
  rw [atI_nat h0 e]
theorem dIx_tup (h0 : 0 ≤ i) (e : xs[i.toNat]? = some d) : dIx (.tup xs) (.int i) h = .ok d h := by
  show (match atI xs i with | some d => R.ok d h | none => .bad) = _
  rw [atI_nat h0 e]
theorem dIx_ref (h0 : 0 ≤ i) (he : h[n]? = some (.lst xs)) (e : xs[i.toNat]? = some d) : dIx (.ref n) (.int i) h = .ok d h := by
  show (match h[n]?.bind Cell.seq?, D.int i with
  | some ds, .int i => (match atI ds i with
    | some d => R.ok d h
    | none => .bad)
  | _, _ => .bad) = _
  rw [he]
  show (match atI xs i with | some d => R.ok d h | none => .bad) = _
  rw [atI_nat h0 e]
@[simp] theorem dTuple_vl : dTuple [.vl xs] h = .ok (.tup xs) h := rfl
@[simp] theorem dTuple_tup : dTuple [.tup xs] h = .ok (.tup xs) h := rfl
@[simp] theorem dList_vl : dList [.vl xs] h = .ok (.vl xs) h := rfl
@[simp] theorem dList_tup : dList [.tup xs] h = .ok (.vl xs) h := rfl
@[simp] theorem dListR_vl : dListR [.vl xs] h = .ok (.ref h.length) (h ++ [.lst xs]) := rfl
@[simp] theorem dListR_tup : dListR [.tup xs] h = .ok (.ref h.length) (h ++ [.lst xs]) := rfl
/-! statements -/
variable {e : AEx} {s u : ASt} {q : ATs} {g : ATg}
@[simp] theorem seq_nx {f : AEnv → AH → RS} : (RS.nx δ h).seq f = f δ h := rfl
@[simp] theorem seq_rt {f : AEnv → AH → RS} : (RS.rt d h).seq f = .rt d h := rfl
@[simp] theorem seq_bk {f : AEnv → AH → RS} : (RS.bk δ h).seq f = .bk δ h := rfl
@[simp] theorem seq_ct {f : AEnv → AH → RS} : (RS.ct δ h).seq f = .ct δ h := rfl
@[simp] theorem seq_er {f : AEnv → AH → RS} {k : Str} : (RS.er k d δ h).seq f = .er k d δ h := rfl
@[simp] theorem sSeq_e : sSeq s u δ h = (s δ h).seq u := rfl
@[simp] theorem sNil_e : sNil δ h = .nx δ h := rfl
@[simp] theorem sBreak_e : sBreak δ h = .bk δ h := rfl
@[simp] theorem sCont_e : sCont δ h = .ct δ h := rfl
@[simp] theorem sExp_e : sExp a δ h = (a δ h).thn δ fun _ h1 => .nx δ h1 := rfl
@[simp] theorem sRet_e : sRet a δ h = (a δ h).thn δ fun d h1 => .rt d h1 := rfl
@[simp] theorem sRetN_e : sRetN δ h = .rt .non h := rfl
@[simp] theorem sIf_e : sIf q s u δ h = (q δ h).thn δ fun k h1 => if k = true then s δ h1 else u δ h1 := rfl
@[simp] theorem sSet_e : sSet n a δ h = (a δ h).thn δ fun d h1 => .nx (δ.set n (some d)) h1 := rfl
@[simp] theorem toS_ok : (R.ok δ h).toS = .nx δ h := rfl
@[simp] theorem sAsg_e : sAsg a g δ h = (a δ h).thn δ fun d h1 => (g d δ h1).toS := rfl
@[simp] theorem sRaise_e {k : Str} : sRaise k a δ h = (a δ h).thn δ fun d h1 => .er k d δ h1 := rfl
@[simp] theorem gNam_e : gNam n d δ h = .ok (δ.set n (some d)) h := rfl
@[simp] theorem gNilA_e : gNilA [] δ h = .ok δ h := rfl
@[simp] theorem gConsA_e {r : ATgs} : gConsA g r (d :: xs) δ h = (g d δ h).bind fun δ1 h1 => r xs δ1 h1 := rfl
@[simp] theorem gUn_tup {r : ATgs} (hl : xs.length = n) : gUn n r (.tup xs) δ h = r xs δ h := by
  show (if xs.length = n then _ else _) = _
  rw [if_pos hl]
@[simp] theorem gUn_vl {r : ATgs} (hl : xs.length = n) : gUn n r (.vl xs) δ h = r xs δ h := by
  show (if xs.length = n then _ else _) = _
  rw [if_pos hl]
theorem gSub_e {i' : Nat} (eo : a δ h = .ok (.ref n) h1) {h2 : AH} (ei : b δ h1 = .ok (.int i) h2) (hc : h2[n]? = some (.lst xs)) (hi : ixN xs.length i = some i') : gSubA a b d δ h = .ok δ (h2.set n (.lst (xs.set i' d))) := by
  unfold gSubA
  rw [eo, R.bind_ok, ei, R.bind_ok]
  show (match h2[n]?.bind Cell.lst? with
    | some ds => (match ixN ds.length i with
      | some j => R.ok δ (h2.set n (.lst (ds.set j d)))
      | none => .bad)
    | none => .bad) = _
  rw [hc]
  show (match ixN xs.length i with
      | some j => R.ok δ (h2.set n (.lst (xs.set j d)))
      | none => .bad) = _
  rw [hi]
theorem aApp_e (eo : a δ h = .ok (.ref n) h1) {h2 : AH} {zs : List D} (hz : h1[n]? = some (.lst zs)) (ei : b δ h1 = .ok d h2) (hc : h2[n]? = some (.lst xs)) (hi : xs.length < 1000000) : aApp a b δ h = .ok .non (h2.set n (.lst (xs ++ [d]))) := by
  unfold aApp
  rw [eo, R.bind_ok]
  show (match h1[n]?.bind Cell.lst? with
    | some _ => (b δ h1).bind fun d h2 => (match h2[n]?.bind Cell.lst? with
      | some xs => if xs.length < 1000000 then R.ok D.non (h2.set n (.lst (xs ++ [d]))) else .bad
      | none => .bad)
    | none => .bad) = _
  rw [hz]
  show ((b δ h1).bind fun d h2 => (match h2[n]?.bind Cell.lst? with
      | some xs => if xs.length < 1000000 then R.ok D.non (h2.set n (.lst (xs ++ [d]))) else .bad
      | none => .bad)) = _
  rw [ei, R.bind_ok, hc]
  show (if xs.length < 1000000 then R.ok D.non (h2.set n (.lst (xs ++ [d]))) else .bad) = _
  rw [if_pos hi]
end
/-! ### a def's end -/
mutual
theorem clo_mono : ∀ {d : D} {n : Nat}, d.clo 0 = true → d.clo n = true
  | .non, _, _ => rfl
  | .bl _, _, _ => rfl
  | .int _, _, _ => rfl
  | .str _, _, _ => rfl
  | .tup ds, n, h => clol_mono (ds := ds) h
  | .vl ds, n, h => clol_mono (ds := ds) h
  | .obj _ _ ds, n, h => clol_mono (ds := ds) h
  | .ref i, n, h => absurd (of_decide_eq_true (show decide (i < 0) = true from h)) (Nat.not_lt_zero i)
theorem clol_mono : ∀ {ds : List D} {n : Nat}, cloL 0 ds = true → cloL n ds = true
  | [], _, _ => rfl
  | d :: ds, n, h => by
    obtain ⟨h1, h2⟩ := Bool.and_eq_true_iff.mp (show (d.clo 0 && cloL 0 ds) = true from h)
    exact Bool.and_eq_true_iff.mpr ⟨clo_mono h1, clol_mono h2⟩
end
theorem cell_mono {c : Cell} {n : Nat} (h : c.clo 0 = true) : c.clo n = true := by
  cases c with
  | lst ds => exact clol_mono (ds := ds) h
  | ro ds => exact clol_mono (ds := ds) h
  | ins _ _ ds => exact clol_mono (ds := ds) h
  | dic _ _ => cases h
  | dead => rfl
/-- every cell holds plain data -/
def HC (h : AH) : Prop := h.all (Cell.clo 0) = true
theorem HC.nil : HC [] := rfl
theorem HC.set {h : AH} (hc : HC h) (n : Nat) {c : Cell} (k : c.clo 0 = true) : HC (h.set n c) := by
  refine List.all_eq_true.mpr fun x m => ?_
  rcases List.mem_or_eq_of_mem_set m with q | q
  · exact List.all_eq_true.mp hc x q
  · rw [q]; exact k
theorem HC.push {h : AH} (hc : HC h) {c : Cell} (k : c.clo 0 = true) : HC (h ++ [c]) := by
  refine List.all_eq_true.mpr fun x m => ?_
  rcases List.mem_append.mp m with q | q
  · exact List.all_eq_true.mp hc x q
  · rw [List.mem_singleton.mp q]; exact k
theorem HC.take {h : AH} (hc : HC h) (n : Nat) : HC (h.take n) := List.all_eq_true.mpr fun x m => List.all_eq_true.mp hc x (List.mem_of_mem_take m)
theorem HC.all {h : AH} (hc : HC h) (n : Nat) : h.all (Cell.clo n) = true := List.all_eq_true.mpr fun x m => cell_mono (List.all_eq_true.mp hc x m)
/-- the def's answer: plain data -/
theorem fin_val {n : Nat} {d : D} {h : AH} (hc : HC (h.take n)) (hd : d.clo 0 = true) : fin false n d h = .ok d (h.take n) := by
  have e : frz n d h = d := by
    cases d with
    | ref i => exact absurd (of_decide_eq_true (show decide (i < 0) = true from hd)) (Nat.not_lt_zero i)
    | _ => rfl
  unfold fin
  rw [if_neg (by decide), if_pos ⟨hc.all n, by rw [e]; exact clo_mono hd⟩, e]
/-- .. a new list -/
theorem fin_new {n i : Nat} {h : AH} {ds : List D} (hc : HC (h.take n)) (hi : n ≤ i) (e : h[i]? = some (.lst ds)) (hd : cloL 0 ds = true) : fin false n (.ref i) h = .ok (.vl ds) (h.take n) := by
  have e : frz n (.ref i) h = .vl ds := by
    show (if i < n then D.ref i else (match h[i]? with
      | some (.lst ds) => .vl ds
      | some (.ins c fs ds) => .obj c fs ds
      | _ => .ref i)) = _
    rw [if_neg (by omega), e]
  unfold fin
  rw [if_neg (by decide), if_pos ⟨hc.all n, by rw [e]; exact clol_mono hd⟩, e]
theorem finE_val {n : Nat} {c : Str} {d : D} {h : AH} (hc : HC (h.take n)) (hd : d.clo 0 = true) : finE n c d h = .er c d (h.take n) := by
  unfold finE
  rw [if_pos ⟨hc.all n, clo_mono hd⟩]
theorem runB_rt {np N : Nat} {b : ASt} {ds : List D} {h h' : AH} {d : D} (hl : ds.length = np) (e : b (startA N ds) h = .rt d h') : runB false np N b ds h = fin false h.length d h' := by
  unfold runB
  rw [if_pos hl, e]
theorem runB_nx {np N : Nat} {b : ASt} {ds : List D} {h h' : AH} {δ : AEnv} (hl : ds.length = np) (e : b (startA N ds) h = .nx δ h') : runB false np N b ds h = fin false h.length .non h' := by
  unfold runB
  rw [if_pos hl, e]
theorem runB_er {np N : Nat} {b : ASt} {ds : List D} {h h' : AH} {δ : AEnv} {c : Str} {d : D} (hl : ds.length = np) (e : b (startA N ds) h = .er c d δ h') : runB false np N b ds h = finE h.length c d h' := by
  unfold runB
  rw [if_pos hl, e]
end Mr
/-! loops of mirrors -/
namespace Mr
open PySem PySem.Spec PyProof.Rows L2 Aq
section
variable {δ δ' : AEnv} {h h1 : AH} {a b : AEx} {d : D} {i : Nat} {u s v : ASt} {q : ATs}
theorem seq_set (e : a δ h = .ok d h1) : sSeq (sSet i a) u δ h = u (δ.set i (some d)) h1 := by rw [sSeq_e, sSet_e, e] <;> rfl
theorem seq_exp (e : a δ h = .ok d h1) : sSeq (sExp a) u δ h = u δ h1 := by rw [sSeq_e, sExp_e, e] <;> rfl
theorem seq_nxt (e : s δ h = .nx δ' h1) : sSeq s u δ h = u δ' h1 := by rw [sSeq_e, e] <;> rfl
theorem seq_rtn (e : s δ h = .rt d h1) : sSeq s u δ h = .rt d h1 := by rw [sSeq_e, e] <;> rfl
theorem seq_err {c : Str} (e : s δ h = .er c d δ' h1) : sSeq s u δ h = .er c d δ' h1 := by rw [sSeq_e, e] <;> rfl
theorem aif_t (e : q δ h = .ok true h1) : aIf q a b δ h = a δ h1 := by rw [aIf_e, e] <;> rfl
theorem aif_f (e : q δ h = .ok false h1) : aIf q a b δ h = b δ h1 := by rw [aIf_e, e] <;> rfl
theorem ret_e (e : a δ h = .ok d h1) : sRet a δ h = .rt d h1 := by rw [sRet_e, e] <;> rfl
theorem if_t (e : q δ h = .ok true h1) : sIf q s v δ h = s δ h1 := by rw [sIf_e, e] <;> rfl
theorem if_f (e : q δ h = .ok false h1) : sIf q s v δ h = v δ h1 := by rw [sIf_e, e] <;> rfl
theorem seq_no (e : q δ h = .ok false h1) : sSeq (sIf q s sNil) u δ h = u δ h1 := by rw [sSeq_e, if_f e] <;> rfl
end
theorem src_ok {items : List D} {h : AH} : Src.ok ⟨items, []⟩ h := fun p m => by cases m
theorem for_inv {s : Src} {g : ATg} {b : ASt} (I : Nat → AEnv → AH → Prop) : ∀ (pre items : List D) {δ : AEnv} {h : AH}, I pre.length δ h → (∀ i d δ h, items[i]? = some d → I (pre.length + i) δ h → s.ok h ∧ ∃ δ1 h1 δ2 h2, g d δ h = .ok δ1 h1 ∧ (b δ1 h1 = .nx δ2 h2 ∨ b δ1 h1 = .ct δ2 h2) ∧ I (pre.length + i + 1) δ2 h2) →
    (∀ δ h, I (pre.length + items.length) δ h → s.ok h) → ∃ δ' h', forL s g b items δ h = .nx δ' h' ∧ I (pre.length + items.length) δ' h'
  | pre, [], δ, h, h0, _, last => ⟨δ, h, by
    unfold forL
    rw [if_pos (last δ h h0)], h0⟩
  | pre, d :: ds, δ, h, h0, step, last => by
    obtain ⟨ok, δ1, h1, δ2, h2, e1, e2, h3⟩ := step 0 d δ h rfl h0
    have l1 : (pre ++ [d]).length = pre.length + 0 + 1 := by simp
    obtain ⟨δ', h', e, hI⟩ := for_inv I (pre ++ [d]) ds (δ := δ2) (h := h2) (by rw [l1]; exact h3) (fun i x δ h hx hi => by
      have := step (i + 1) x δ h hx (by rw [l1] at hi; rwa [show pre.length + (i + 1) = pre.length + 0 + 1 + i by omega])
      rw [l1]
      rwa [show pre.length + (i + 1) = pre.length + 0 + 1 + i by omega] at this) (fun δ h hi => last δ h (by rw [l1] at hi; rwa [show pre.length + (d :: ds).length = pre.length + 0 + 1 + ds.length by simp; omega]))
    refine ⟨δ', h', ?_, by rw [l1] at hI; rwa [show pre.length + (d :: ds).length = pre.length + 0 + 1 + ds.length by simp; omega]⟩
    unfold forL
    rw [if_pos ok, e1]
    show (match b δ1 h1 with
      | .nx δ2 h2 => forL s g b ds δ2 h2
      | .ct δ2 h2 => forL s g b ds δ2 h2
      | .bk δ2 h2 => .nx δ2 h2
      | r => r) = _
    rcases e2 with q | q <;> rw [q] <;> exact e
/-- for over a list by value -/
theorem for_run {items : List D} {g : ATg} {b : ASt} {δ : AEnv} {h : AH} (I : Nat → AEnv → AH → Prop) (h0 : I 0 δ h) (step : ∀ i d δ h, items[i]? = some d → I i δ h → ∃ δ1 h1 δ2 h2, g d δ h = .ok δ1 h1 ∧ (b δ1 h1 = .nx δ2 h2 ∨ b δ1 h1 = .ct δ2 h2) ∧ I (i + 1) δ2 h2) :
    ∃ δ' h', forL ⟨items, []⟩ g b items δ h = .nx δ' h' ∧ I items.length δ' h' := by
  obtain ⟨δ', h', e, hI⟩ := for_inv (s := ⟨items, []⟩) (g := g) (b := b) I [] items h0 (fun i d δ h hx hi => ⟨src_ok, by
    have := step i d δ h hx (by simpa using hi)
    simpa using this⟩) (fun _ _ _ => src_ok)
  exact ⟨δ', h', e, by simpa using hI⟩
/-- a comprehension without a test -/
theorem lc_run {s : Src} {g : ATg} {te : AEx} {δ0 : AEnv} (I : Nat → List D → AH → Prop) : ∀ (n : Nat) (items xs : List D) {h : AH}, I n xs h → xs.length + items.length ≤ 1000000 → (∀ i d xs h, items[i]? = some d → I (n + i) xs h → s.ok h ∧ ∃ δ1 h1 y h2, g d δ0 h = .ok δ1 h1 ∧ te δ1 h1 = .ok y h2 ∧ I (n + i + 1) (xs ++ [y]) h2) →
    (∀ xs h, I (n + items.length) xs h → s.ok h) → ∃ ys h', lcL s g aYes te δ0 items xs h = .ok ys h' ∧ ys.length = xs.length + items.length ∧ I (n + items.length) ys h'
  | n, [], xs, h, h0, _, _, last => ⟨xs, h, by
    unfold lcL
    rw [if_pos (last xs h h0)], by simp, h0⟩
  | n, d :: ds, xs, h, h0, hl, step, last => by
    obtain ⟨ok, δ1, h1, y, h2, e1, e2, h3⟩ := step 0 d xs h rfl h0
    rw [List.length_cons] at hl
    obtain ⟨ys, h', e, hy, hI⟩ := lc_run (s := s) (g := g) (te := te) (δ0 := δ0) I (n + 1) ds (xs ++ [y]) (h := h2) h3 (by simp; omega) (fun i x zs h hx hi => by
      have := step (i + 1) x zs h hx (by rwa [show n + (i + 1) = n + 1 + i by omega])
      rwa [show n + (i + 1) = n + 1 + i by omega] at this) (fun zs h hi => last zs h (by rwa [show n + (d :: ds).length = n + 1 + ds.length by simp; omega]))
    refine ⟨ys, h', ?_, by simp at hy ⊢; omega, by rwa [show n + (d :: ds).length = n + 1 + ds.length by simp; omega]⟩
    unfold lcL
    rw [if_pos ok, e1]
    show (match te δ1 h1 with
        | .ok y h3 => if xs.length < 1000000 then lcL s g aYes te δ0 ds (xs ++ [y]) h3 else .bad
        | _ => .bad) = _
    rw [e2]
    show (if xs.length < 1000000 then lcL s g aYes te δ0 ds (xs ++ [y]) h2 else .bad) = _
    rw [if_pos (by omega), e]
/-- .. with a test: the items made are some of them, in their order -/
theorem lc_filter {s : Src} {g : ATg} {tt : ATs} {te : AEx} {δ0 : AEnv} (I : AH → Prop) (ok : ∀ h, I h → s.ok h) : ∀ (items xs : List D) {h : AH}, I h → xs.length + items.length ≤ 1000000 → (∀ d ∈ items, ∀ h, I h → ∃ δ1 h1 k h2 , g d δ0 h = .ok δ1 h1 ∧ tt δ1 h1 = .ok k h2 ∧ I h2 ∧ te δ1 h2 = .ok d h2) →
    ∃ ys h', lcL s g tt te δ0 items xs h = .ok (xs ++ ys) h' ∧ ys.Sublist items ∧ I h'
  | [], xs, h, h0, _, _ => ⟨[], h, by
    unfold lcL
    rw [if_pos (ok h h0), List.append_nil], .slnil, h0⟩
  | d :: ds, xs, h, h0, hl, step => by
    obtain ⟨δ1, h1, k, h2, e1, e2, i2, e3⟩ := step d List.mem_cons_self h h0
    rw [List.length_cons] at hl
    cases k with
    | true =>
      obtain ⟨ys, h', e, hy, hI⟩ := lc_filter I ok ds (xs ++ [d]) i2 (by simp; omega) fun x m => step x (List.mem_cons_of_mem _ m)
      refine ⟨d :: ys, h', ?_, hy.cons₂ d, hI⟩
      unfold lcL
      rw [if_pos (ok h h0), e1]
      show (match tt δ1 h1 with
      | .ok true h2 => (match te δ1 h2 with
        | .ok y h3 => if xs.length < 1000000 then lcL s g tt te δ0 ds (xs ++ [y]) h3 else .bad
        | _ => .bad)
      | .ok false h2 => lcL s g tt te δ0 ds xs h2
      | _ => .bad) = _
      rw [e2]
      show (match te δ1 h2 with
        | .ok y h3 => if xs.length < 1000000 then lcL s g tt te δ0 ds (xs ++ [y]) h3 else .bad
        | _ => .bad) = _
      rw [e3]
      show (if xs.length < 1000000 then lcL s g tt te δ0 ds (xs ++ [d]) h2 else .bad) = _
      rw [if_pos (by omega), e, List.append_assoc]
      rfl
    | false =>
      obtain ⟨ys, h', e, hy, hI⟩ := lc_filter I ok ds xs i2 (by omega) fun x m => step x (List.mem_cons_of_mem _ m)
      refine ⟨ys, h', ?_, hy.cons d, hI⟩
      unfold lcL
      rw [if_pos (ok h h0), e1]
      show (match tt δ1 h1 with
      | .ok true h2 => (match te δ1 h2 with
        | .ok y h3 => if xs.length < 1000000 then lcL s g tt te δ0 ds (xs ++ [y]) h3 else .bad
        | _ => .bad)
      | .ok false h2 => lcL s g tt te δ0 ds xs h2
      | _ => .bad) = _
      rw [e2]
      exact e
theorem rgD_get {n i : Nat} {d : D} (h : (rgD 0 n)[i]? = some d) : i < n ∧ d = .int i := by
  unfold rgD at h
  rw [List.getElem?_map] at h
  obtain ⟨j, hj, e⟩ := Option.map_eq_some_iff.mp h
  have hl : i < n := by
    have := (List.getElem?_eq_some_iff.mp hj).1
    simpa using this
  rw [List.getElem?_range hl] at hj
  cases hj
  refine ⟨hl, ?_⟩
  rw [← e, Int.zero_add]
theorem rgD_length {lo : Int} {n : Nat} : (rgD lo n).length = n := by
  unfold rgD
  simp
theorem rgOk_small {n : Int} (h0 : 0 ≤ n) (h1 : n < 4611686018427387904) : rgOk 0 n = true := by
  unfold rgOk
  exact decide_eq_true ⟨by decide, by decide, by omega, h1⟩
theorem sFor_rg {t : AAs} {g : ATg} {b : ASt} {δ : AEnv} {h h1 : AH} {n : Int} (e : t δ h = .ok [.int n] h1) (h0 : 0 ≤ n) (hn : n < 4611686018427387904) : sFor (iRg1 t) g b δ h = forL ⟨rgD 0 n.toNat, []⟩ g b (rgD 0 n.toNat) δ h1 := by
  unfold sFor iRg1
  rw [e]
  show ((if rgOk 0 n then R.ok (Src.mk (rgD 0 n.toNat) []) h1 else .bad).thn δ fun s h1 => forL s g b s.items δ h1) = _
  rw [if_pos (rgOk_small h0 hn)]
  rfl
theorem sFor_tup {a : AEx} {g : ATg} {b : ASt} {δ : AEnv} {h h1 : AH} {ds : List D} (e : a δ h = .ok (.tup ds) h1) : sFor (iSeqA a) g b δ h = forL ⟨ds, []⟩ g b ds δ h1 := by
  unfold sFor iSeqA
  rw [e]
  rfl
theorem sFor_vl {a : AEx} {g : ATg} {b : ASt} {δ : AEnv} {h h1 : AH} {ds : List D} (e : a δ h = .ok (.vl ds) h1) : sFor (iSeqA a) g b δ h = forL ⟨ds, []⟩ g b ds δ h1 := by
  unfold sFor iSeqA
  rw [e]
  rfl
theorem aLc_rg {t : AAs} {g : ATg} {tt : ATs} {te : AEx} {vs : List Nat} {δ : AEnv} {h h1 h2 : AH} {n : Int} {ys : List D} (e : t δ h = .ok [.int n] h1) (h0 : 0 ≤ n) (hn : n < 4611686018427387904) (el : lcL ⟨rgD 0 n.toNat, []⟩ g tt te (wipA δ vs) (rgD 0 n.toNat) [] h1 = .ok ys h2) : aLc (iRg1 t) g tt te vs δ h = .ok (.vl ys) h2 := by
  unfold aLc aLcR iRg1
  rw [e]
  show ((((if rgOk 0 n then R.ok (Src.mk (rgD 0 n.toNat) []) h1 else .bad)).bind fun s h1 => lcL s g tt te (wipA δ vs) s.items [] h1).bind fun ds h1 => R.ok (D.vl ds) h1) = _
  rw [if_pos (rgOk_small h0 hn), R.bind_ok]
  show ((lcL ⟨rgD 0 n.toNat, []⟩ g tt te (wipA δ vs) (rgD 0 n.toNat) [] h1).bind fun ds h1 => R.ok (D.vl ds) h1) = _
  rw [el]
  rfl
theorem aLc_seq {a : AEx} {g : ATg} {tt : ATs} {te : AEx} {vs : List Nat} {δ : AEnv} {h h1 h2 : AH} {d : D} {ds ys : List D} (e : a δ h = .ok d h1) (hd : d = .tup ds ∨ d = .vl ds) (el : lcL ⟨ds, []⟩ g tt te (wipA δ vs) ds [] h1 = .ok ys h2) : aLc (iSeqA a) g tt te vs δ h = .ok (.vl ys) h2 := by
  unfold aLc aLcR iSeqA
  rw [e]
  rcases hd with rfl | rfl
  · show ((lcL ⟨ds, []⟩ g tt te (wipA δ vs) ds [] h1).bind fun ds h1 => R.ok (D.vl ds) h1) = _
    rw [el]
    rfl
  · show ((lcL ⟨ds, []⟩ g tt te (wipA δ vs) ds [] h1).bind fun ds h1 => R.ok (D.vl ds) h1) = _
    rw [el]
    rfl
end Mr
/-! pairs of numbers: in; slices; pushed cells -/
namespace Mr
open PySem PySem.Spec PyProof.Rows L2 Aq
abbrev P2 := Int × Int
def pD (p : P2) : D := .tup [.int p.1, .int p.2]
def pP (p : P2) : PyData := .tuple [.int p.1, .int p.2]
theorem toPy_pD (p : P2) : toPy (pD p) = some (pP p) := by
  simp [pD, pP, toPy, toPyL]
theorem toPyL_pD : ∀ ps : List P2, toPyL (ps.map pD) = some (ps.map pP)
  | [] => rfl
  | p :: ps => by
    show (match toPy (pD p), toPyL (ps.map pD) with
    | some x, some xs => some (x :: xs)
    | _, _ => none) = _
    rw [toPy_pD, toPyL_pD ps]
    rfl
theorem lay_pP : ∀ ps : List P2, PyData.canLayAll0 (ps.map pP) = true
  | [] => rfl
  | p :: ps => by
    show (PyData.canLay0 (pP p) && PyData.canLayAll0 (ps.map pP)) = true
    rw [lay_pP ps]
    simp [pP, PyData.canLay0, PyData.canLayAll0]
theorem dep_pP : ∀ ps : List P2, PyData.depthAll (ps.map pP) ≤ 1
  | [] => Nat.zero_le _
  | p :: ps => by
    show max (PyData.depth (pP p)) (PyData.depthAll (ps.map pP)) ≤ 1
    have := dep_pP ps
    have e : PyData.depth (pP p) = 1 := by simp [pP, PyData.depth, PyData.depthAll]
    rw [e]
    omega
theorem eqv_pP (p q : P2) : PyData.eqv (pP p) (pP q) = decide (p = q) := by
  obtain ⟨a, b⟩ := p
  obtain ⟨c, d⟩ := q
  have e : PyData.eqv (pP (a, b)) (pP (c, d)) = ((a == c) && ((b == d) && true)) := rfl
  rw [e]
  by_cases h1 : a = c <;> by_cases h2 : b = d <;> simp [h1, h2]
theorem any_pP (p : P2) (ps : List P2) : (ps.map pP).any (fun z => PyData.eqv z (pP p)) = decide (p ∈ ps) := by
  induction ps with
  | nil => rfl
  | cons q ps ih =>
    rw [List.map_cons, List.any_cons, ih, eqv_pP]
    by_cases h1 : q = p
    · simp [h1]
    · have h1' : ¬ p = q := fun e => h1 e.symm
      by_cases h2 : p ∈ ps <;> simp [h1, h1', h2]
theorem dIn_pairs {neg : Bool} {p : P2} {ps : List P2} {y : D} {h : AH} (e : lstOf h y = some (ps.map pD)) : dIn neg (pD p) y h = .ok (.bl (if neg then !decide (p ∈ ps) else decide (p ∈ ps))) h := by
  have e1 : flatSeq h (pD p) y = none := by
    unfold flatSeq
    split
    · rfl
    · rfl
  have e2 : toPy1 h (pD p) = some (pP p) := toPy_pD p
  have e3 : (lstOf h y).bind toPyL = some (ps.map pP) := by
    rw [e]
    exact toPyL_pD ps
  have s1 : SeqAt.shaped (pP p) = true := by
    unfold SeqAt.shaped
    simp [pP, PyData.canLay0, PyData.canLayAll0, PyData.depth, PyData.depthAll]
  have s2 : SeqAt.shaped (.list (ps.map pP)) = true := by
    unfold SeqAt.shaped
    have d := dep_pP ps
    rw [show PyData.canLay0 (.list (ps.map pP)) = true from lay_pP ps, show PyData.depth (.list (ps.map pP)) = PyData.depthAll (ps.map pP) + 1 from rfl]
    simp
    omega
  unfold dIn
  rw [e1, e2, e3]
  show (if SeqAt.shaped (pP p) && SeqAt.shaped (.list (ps.map pP)) then Mr.R.ok (D.bl (if neg then !((ps.map pP).any fun z => PyData.eqv z (pP p)) else (ps.map pP).any fun z => PyData.eqv z (pP p))) h else .bad) = _
  rw [s1, s2, any_pP]
  rfl
theorem cut_take {xs : List D} {i : Int} (h0 : 0 ≤ i) : cutD xs none (some i) = xs.take i.toNat := by
  unfold cutD
  have e : HT.sIx xs.length xs.length (some i) = min i.toNat xs.length := by
    obtain ⟨k, rfl⟩ := Int.eq_ofNat_of_zero_le h0
    exact HT.sIx_nat _ _ k
  rw [e, HT.sIx_none]
  rw [List.drop_zero, Nat.sub_zero]
  rw [Nat.min_def]
  split
  · rfl
  · rw [List.take_of_length_le (by omega), List.take_of_length_le (by omega)]
theorem cut_drop {xs : List D} {i : Int} (h0 : 0 ≤ i) : cutD xs (some i) none = xs.drop i.toNat := by
  unfold cutD
  have e : HT.sIx xs.length 0 (some i) = min i.toNat xs.length := by
    obtain ⟨k, rfl⟩ := Int.eq_ofNat_of_zero_le h0
    exact HT.sIx_nat _ _ k
  rw [e, HT.sIx_none]
  rw [Nat.min_def]
  split
  · exact List.take_of_length_le (by simp)
  · rw [List.drop_of_length_le (Nat.le_refl _), List.drop_of_length_le (by omega)]
    simp
@[simp] theorem dAdd_vl {xs ys : List D} {h : AH} (hl : xs.length + ys.length ≤ 1000000) : dAdd (.vl xs) (.vl ys) h = .ok (.vl (xs ++ ys)) h := by
  show (if SzOk (xs.length + ys.length) then Mr.R.ok (D.vl (xs ++ ys)) h else .bad) = _
  rw [if_pos (szOk hl)]
@[simp] theorem dAdd_tup {xs ys : List D} {h : AH} (hl : xs.length + ys.length ≤ 1000000) : dAdd (.tup xs) (.tup ys) h = .ok (.tup (xs ++ ys)) h := by
  show (if SzOk (xs.length + ys.length) then Mr.R.ok (D.tup (xs ++ ys)) h else .bad) = _
  rw [if_pos (szOk hl)]
theorem set_push {h : AH} {c c' : Cell} {k : Nat} (hk : k = h.length) : (h ++ [c]).set k c' = h ++ [c'] := by
  subst hk
  simp
theorem get_push {h : AH} {c : Cell} {k : Nat} (hk : k = h.length) : (h ++ [c])[k]? = some c := by
  rw [hk]
  simp
theorem take_push {h : AH} {l : List Cell} {k : Nat} (hk : k = h.length) : (h ++ l).take k = h := by
  rw [hk]
  simp
theorem dTuple_ref {xs : List D} {n : Nat} {h : AH} (e : h[n]? = some (.lst xs)) : dTuple [.ref n] h = .ok (.tup xs) h := by
  show (match (match h[n]?.bind Cell.seq? with | some ds => some ds | none => none) with | _ => _) = _
  unfold dTuple on1
  show (match h[n]?.bind Cell.seq? with | some ds => Mr.R.ok (D.tup ds) h | none => .bad) = _
  rw [e]
  rfl
end Mr
namespace Mr
open PySem PySem.Spec PyProof.Rows L2 Aq
def errCs : List Str := ["BadValue", "TooMany", "BadTask", "BadPair", "BadModel", "BadState"]
noncomputable def L1__law_numbers : ASt :=
  (sSeq (sIf (aB (aOp (dEq false) (aVar 3) (aC (.int 0))))
    sBreak
    sNil)
  (sSeq (sExp (aApp (aVar 1) (aOp dMod (aCb dInt (aCons (aVar 3) aNil)) (aC (.int 997)))))
  (sSet 3 (aOp dFdv (aVar 3) (aC (.int 997))))))
noncomputable def L2__law_numbers : ASt :=
  (sSeq (sSet 5 (aOp dMod (aCb dInt (aCons (aOp dAdd (aOp dAdd (aOp dMul (aVar 2) (aC (.int 48271))) (aOp dMul (aVar 4) (aC (.int 69621)))) (aC (.int 11))) aNil)) (aC (.int 2147483647))))
  (sExp (aApp (aVar 1) (aOp dMod (aCb dInt (aCons (aOp dAdd (aOp dMul (aVar 5) (aC (.int 16807))) (aVar 4)) aNil)) (aC (.int 2147483629))))))
noncomputable def L3__law_numbers : ASt :=
  (sIf (aB (aOp dGe (aVar 2) (aOp dPow (aC (.int 10)) (aC (.int 18)))))
    (sSeq (sSet 3 (aVar 2))
  (sFor (iRg1 (aCons (aC (.int 60)) aNil)) (gNam 4)
    L1__law_numbers))
    (sFor (iRg1 (aCons (aC (.int 4)) aNil)) (gNam 4)
    L2__law_numbers))
noncomputable def A__law_numbers : AF := runB false 1 6
  (sSeq (sSet 1 (aLs aNil))
  (sSeq (sFor (iSeqA (aSl (aVar 0) aNo (aPart (aC (.int 63))))) (gNam 2)
    L3__law_numbers)
  (sSeq (sIf (aB (aOp (dEq false) (aCb dLen (aCons (aVar 1) aNil)) (aC (.int 0))))
    (sExp (aApp (aVar 1) (aC (.int 0))))
    sNil)
  (sRet (aVar 1)))))
noncomputable def A__law_draw : AF := runB false 3 4
  (sSeq (sIf (aB (aOp dLt (aVar 1) (aCb dLen (aCons (aVar 0) aNil))))
    (sRet (aOp dMod (aCb dInt (aCons (aOp dIx (aVar 0) (aVar 1)) aNil)) (aVar 2)))
    sNil)
  (sSeq (sSet 3 (aOp dMod (aCb dInt (aCons (aOp dAdd (aOp dAdd (aOp dMul (aOp dIx (aVar 0) (aOp dMod (aCb dInt (aCons (aVar 1) aNil)) (aCb dLen (aCons (aVar 0) aNil)))) (aC (.int 40692))) (aOp dMul (aVar 1) (aC (.int 7919)))) (aC (.int 3))) aNil)) (aC (.int 2147483399))))
  (sRet (aOp dMod (aCb dInt (aCons (aOp dMod (aCb dInt (aCons (aOp dAdd (aOp dMul (aVar 3) (aC (.int 48271))) (aVar 1)) aNil)) (aC (.int 2147483647))) aNil)) (aVar 2)))))
noncomputable def A__law_take : AF := runB false 3 3
  (sSeq (sAsg (aOp dAdd (aOp dIx (aVar 1) (aC (.int 0))) (aC (.int 1))) (gSubA (aVar 1) (aC (.int 0))))
  (sRet (aCall A__law_draw (aCons (aVar 0) (aCons (aOp dSub (aOp dIx (aVar 1) (aC (.int 0))) (aC (.int 1))) (aCons (aVar 2) aNil))))))
noncomputable def A__law_wide : AF := runB false 3 6
  (sSeq (sSet 3 (aCall A__law_take (aCons (aVar 0) (aCons (aVar 1) (aCons (aC (.int 997)) aNil)))))
  (sSeq (sSet 4 (aCall A__law_take (aCons (aVar 0) (aCons (aVar 1) (aCons (aC (.int 997)) aNil)))))
  (sSeq (sSet 5 (aCall A__law_take (aCons (aVar 0) (aCons (aVar 1) (aCons (aC (.int 997)) aNil)))))
  (sRet (aOp dMod (aCb dInt (aCons (aOp dAdd (aOp dAdd (aOp dMul (aVar 3) (aC (.int 994009))) (aOp dMul (aVar 4) (aC (.int 997)))) (aVar 5)) aNil)) (aVar 2))))))
noncomputable def A__law_time : AF := runB false 3 3
  (sSeq (sIf (aB (aOp (dEq false) (aVar 2) (aC (.int 0))))
    (sRet (aCall A__law_take (aCons (aVar 0) (aCons (aVar 1) (aCons (aC (.int 7)) aNil)))))
    sNil)
  (sSeq (sIf (aB (aOp (dEq false) (aVar 2) (aC (.int 1))))
    (sRet (aCall A__law_take (aCons (aVar 0) (aCons (aVar 1) (aCons (aC (.int 100)) aNil)))))
    sNil)
  (sRet (aOp dIx (aVl (aCons (aC (.int 0)) (aCons (aC (.int 1)) (aCons (aC (.int 10000)) (aCons (aCall A__law_wide (aCons (aVar 0) (aCons (aVar 1) (aCons (aC (.int 10001)) aNil)))) aNil))))) (aCall A__law_take (aCons (aVar 0) (aCons (aVar 1) (aCons (aC (.int 4)) aNil))))))))
noncomputable def A__law_task : AF := runB false 3 4
  (sSeq (sSet 3 (aCall A__law_time (aCons (aVar 0) (aCons (aVar 1) (aCons (aVar 2) aNil)))))
  (sSeq (sIf (aB (aOp (dEq false) (aCall A__law_take (aCons (aVar 0) (aCons (aVar 1) (aCons (aC (.int 2)) aNil)))) (aC (.int 0))))
    (sRet (aTup (aCons (aVar 3) (aCons (aVar 3) aNil))))
    sNil)
  (sRet (aTup (aCons (aVar 3) (aCons (aCb dMin2 (aCons (aC (.int 10000)) (aCons (aOp dAdd (aVar 3) (aCall A__law_time (aCons (aVar 0) (aCons (aVar 1) (aCons (aVar 2) aNil))))) aNil))) aNil))))))
noncomputable def L1__law_mixed : ASt :=
  (sSeq (sSet 6 (aCall A__law_take (aCons (aVar 0) (aCons (aVar 1) (aCons (aCb dLen (aCons (aVar 3) aNil)) aNil)))))
  (sSeq (sExp (aApp (aVar 4) (aOp dIx (aVar 3) (aVar 6))))
  (sSet 3 (aOp dAdd (aSl (aVar 3) aNo (aPart (aVar 6))) (aSl (aVar 3) (aPart (aOp dAdd (aVar 6) (aC (.int 1)))) aNo)))))
noncomputable def A__law_mixed : AF := runB false 3 7
  (sSeq (sSet 3 (aCb dList (aCons (aVar 2) aNil)))
  (sSeq (sSet 4 (aLs aNil))
  (sSeq (sFor (iRg1 (aCons (aCb dLen (aCons (aVar 2) aNil)) aNil)) (gNam 5)
    L1__law_mixed)
  (sRet (aVar 4)))))
noncomputable def L1__law_pairs_of : ASt :=
  (sSeq (sSet 7 (aCall A__law_take (aCons (aVar 0) (aCons (aVar 1) (aCons (aVar 2) aNil)))))
  (sSeq (sSet 8 (aCall A__law_take (aCons (aVar 0) (aCons (aVar 1) (aCons (aVar 2) aNil)))))
  (sIf (aB (aOp (dEq true) (aVar 7) (aVar 8)))
    (sSeq (sSet 9 (aTup (aCons (aOp dIx (aVar 4) (aCb dMin2 (aCons (aVar 7) (aCons (aVar 8) aNil)))) (aCons (aOp dIx (aVar 4) (aCb dMax2 (aCons (aVar 7) (aCons (aVar 8) aNil)))) aNil))))
  (sIf (aB (aOp (dIn true) (aVar 9) (aVar 5)))
    (sExp (aApp (aVar 5) (aVar 9)))
    sNil))
    sNil)))
noncomputable def A__law_pairs_of : AF := runB false 4 10
  (sSeq (sSet 4 (aCall A__law_mixed (aCons (aVar 0) (aCons (aVar 1) (aCons (aRg false (aVar 2)) aNil)))))
  (sSeq (sSet 5 (aLs aNil))
  (sSeq (sFor (iRg1 (aCons (aVar 3) aNil)) (gNam 6)
    L1__law_pairs_of)
  (sRet (aCb dTuple (aCons (aVar 5) aNil))))))
noncomputable def A__law_model : AF := runB false 3 5
  (sSeq (sSet 3 (aCall A__law_take (aCons (aVar 0) (aCons (aVar 1) (aCons (aC (.int 4)) aNil)))))
  (sSeq (sIf (aB (aOp (dEq false) (aVar 3) (aC (.int 0))))
    (sRet (aRg true (aVar 2)))
    sNil)
  (sRet (aCb dTuple (aCons (aLc (iRg1 (aCons (aVar 2) aNil)) (gNam 4) (aB (aOp dGt (aCall A__law_take (aCons (aVar 0) (aCons (aVar 1) (aCons (aC (.int 3)) aNil)))) (aC (.int 0)))) (aVar 4) [4]) aNil)))))
noncomputable def L1__law_states : ASt :=
  (sSeq (sSet 10 (aTup (aCons (aCall A__law_take (aCons (aVar 0) (aCons (aVar 1) (aCons (aVar 2) aNil)))) (aCons (aCall A__law_take (aCons (aVar 0) (aCons (aVar 1) (aCons (aVar 5) aNil)))) aNil))))
  (sIf (aB (aOp (dIn true) (aVar 10) (aVar 8)))
    (sExp (aApp (aVar 8) (aVar 10)))
    sNil))
noncomputable def L2__law_states : ASt :=
  (sSeq (sSet 8 (aLs aNil))
  (sSeq (sFor (iRg1 (aCons (aOp dAdd (aC (.int 1)) (aCall A__law_take (aCons (aVar 0) (aCons (aVar 1) (aCons (aVar 4) aNil))))) aNil)) (gNam 9)
    L1__law_states)
  (sExp (aApp (aVar 6) (aCb dTuple (aCons (aVar 8) aNil))))))
noncomputable def A__law_states : AF := runB false 5 11
  (sSeq (sSet 5 (aOp dAdd (aC (.int 1)) (aCall A__law_take (aCons (aVar 0) (aCons (aVar 1) (aCons (aVar 3) aNil))))))
  (sSeq (sSet 6 (aLs aNil))
  (sSeq (sFor (iRg1 (aCons (aVar 5) aNil)) (gNam 7)
    L2__law_states)
  (sRet (aCb dTuple (aCons (aVar 6) aNil))))))
noncomputable def A__law_line : AF := runB false 6 15
  (sSeq (sSet 6 (aOp dIx (aVl (aCons (aC (.int 0)) (aCons (aC (.int 0)) (aCons (aC (.int 1)) (aCons (aC (.int 2)) aNil))))) (aCall A__law_take (aCons (aVar 0) (aCons (aVar 1) (aCons (aC (.int 4)) aNil))))))
  (sSeq (sSet 7 (aOp dAdd (aC (.int 1)) (aCall A__law_take (aCons (aVar 0) (aCons (aVar 1) (aCons (aVar 2) aNil))))))
  (sSeq (sSet 8 (aCb dTuple (aCons (aLc (iRg1 (aCons (aVar 7) aNil)) (gNam 14) aYes (aCall A__law_task (aCons (aVar 0) (aCons (aVar 1) (aCons (aVar 6) aNil)))) [14]) aNil)))
  (sSeq (sSet 9 (aCall A__law_pairs_of (aCons (aVar 0) (aCons (aVar 1) (aCons (aVar 7) (aCons (aCall A__law_take (aCons (aVar 0) (aCons (aVar 1) (aCons (aOp dAdd (aVar 7) (aC (.int 1))) aNil)))) aNil))))))
  (sSeq (sSet 10 (aCb dTuple (aCons (aLc (iRg1 (aCons (aOp dAdd (aC (.int 1)) (aCall A__law_take (aCons (aVar 0) (aCons (aVar 1) (aCons (aC (.int 3)) aNil))))) aNil)) (gNam 14) aYes (aCall A__law_model (aCons (aVar 0) (aCons (aVar 1) (aCons (aVar 7) aNil)))) [14]) aNil)))
  (sSeq (sSet 11 (aCall A__law_states (aCons (aVar 0) (aCons (aVar 1) (aCons (aCb dLen (aCons (aVar 10) aNil)) (aCons (aVar 3) (aCons (aVar 4) aNil)))))))
  (sSeq (sSet 12 (aCall A__law_take (aCons (aVar 0) (aCons (aVar 1) (aCons (aCb dLen (aCons (aVar 11) aNil)) aNil)))))
  (sSeq (sSet 13 (aIf (aB (aOp (dEq false) (aCall A__law_take (aCons (aVar 0) (aCons (aVar 1) (aCons (aC (.int 5)) aNil)))) (aC (.int 0)))) (aC .non) (aCall A__law_take (aCons (aVar 0) (aCons (aVar 1) (aCons (aOp dAdd (aVar 5) (aC (.int 1))) aNil))))))
  (sRet (aTup (aCons (aVar 8) (aCons (aVar 9) (aCons (aVar 10) (aCons (aVar 11) (aCons (aVar 12) (aCons (aVar 13) aNil))))))))))))))))
noncomputable def A__law_case : AF := runB false 2 3
  (sSeq (sSet 2 (aCall A__law_take (aCons (aVar 0) (aCons (aVar 1) (aCons (aC (.int 4)) aNil)))))
  (sSeq (sIf (aB (aOp (dEq false) (aVar 2) (aC (.int 0))))
    (sRet (aCall A__law_line (aCons (aVar 0) (aCons (aVar 1) (aCons (aC (.int 6)) (aCons (aC (.int 4)) (aCons (aC (.int 3)) (aCons (aC (.int 3)) aNil))))))))
    sNil)
  (sSeq (sIf (aB (aOp (dEq false) (aVar 2) (aC (.int 1))))
    (sRet (aCall A__law_line (aCons (aVar 0) (aCons (aVar 1) (aCons (aC (.int 4)) (aCons (aC (.int 3)) (aCons (aC (.int 2)) (aCons (aC (.int 4)) aNil))))))))
    sNil)
  (sSeq (sIf (aB (aOp (dEq false) (aVar 2) (aC (.int 2))))
    (sRet (aCall A__law_line (aCons (aVar 0) (aCons (aVar 1) (aCons (aC (.int 3)) (aCons (aC (.int 2)) (aCons (aC (.int 3)) (aCons (aC (.int 2)) aNil))))))))
    sNil)
  (sRet (aCall A__law_line (aCons (aVar 0) (aCons (aVar 1) (aCons (aC (.int 12)) (aCons (aC (.int 3)) (aCons (aC (.int 2)) (aCons (aC (.int 8)) aNil))))))))))))
noncomputable def B__law_loose (IH : AF) : AF := runB false 2 4
  (sSeq (sIf (aB (aIsi "tuple" (aVar 0)))
    (sSeq (sSet 2 (aLc (iSeqA (aVar 0)) (gNam 3) aYes (aCall IH (aCons (aVar 3) (aCons (aOp dAdd (aVar 1) (aC (.int 1))) aNil))) [3]))
  (sRet (aIf (aB (aOp (dEq false) (aOp dMod (aCb dInt (aCons (aVar 1) aNil)) (aC (.int 2))) (aC (.int 0)))) (aVar 2) (aCb dTuple (aCons (aVar 2) aNil)))))
    sNil)
  (sRet (aVar 0)))
noncomputable def A__law_loose : Nat → AF
  | 0 => fun _ _ => .bad
  | n + 1 => B__law_loose (A__law_loose n)
noncomputable def A_is_sequence : AF := runB false 1 1
  (sRet (aIsi2 "list" "tuple" (aVar 0)))
noncomputable def A_has_length : AF := runB false 3 3
  (sRet (aAndV (aCall A_is_sequence (aCons (aVar 0) aNil)) (aChain dLe dLe (aVar 1) (aCb dLen (aCons (aVar 0) aNil)) (aVar 2))))
noncomputable def A_is_integer : AF := runB false 1 1
  (sRet (aAndV (aIsi "int" (aVar 0)) (aNotV (aIsi "bool" (aVar 0)))))
noncomputable def A_is_within : AF := runB false 3 3
  (sRet (aAndV (aCall A_is_integer (aCons (aVar 0) aNil)) (aChain dLe dLe (aVar 1) (aVar 0) (aVar 2))))
noncomputable def A_is_task : AF := runB false 1 3
  (sSeq (sIf (aNot (aB (aCall A_has_length (aCons (aVar 0) (aCons (aC (.int 2)) (aCons (aC (.int 2)) aNil))))))
    (sRet (aC (.bl false)))
    sNil)
  (sSeq (sAsg (aVar 0) (gUn 2 (gConsA (gNam 1) (gConsA (gNam 2) gNilA))))
  (sRet (aAndV (aCall A_is_within (aCons (aVar 2) (aCons (aC (.int 0)) (aCons (aC (.int 10000)) aNil)))) (aCall A_is_within (aCons (aVar 1) (aCons (aC (.int 0)) (aCons (aVar 2) aNil))))))))
noncomputable def L1_checked_tasks : ASt :=
  (sIf (aNot (aB (aCall A_is_task (aCons (aVar 2) aNil))))
    (sRaise "BadTask" (aVar 1))
    sNil)
noncomputable def A_checked_tasks : AF := runB false 1 3
  (sSeq (sIf (aOr (aNot (aB (aCall A_is_sequence (aCons (aVar 0) aNil)))) (aB (aOp (dEq false) (aCb dLen (aCons (aVar 0) aNil)) (aC (.int 0)))))
    (sRaise "BadValue" (aC (.int 1)))
    sNil)
  (sSeq (sIf (aB (aOp dGt (aCb dLen (aCons (aVar 0) aNil)) (aC (.int 24))))
    (sRaise "TooMany" (aC (.str "tasks")))
    sNil)
  (sSeq (sFor (iEnA (aCons (aVar 0) aNil)) (gUn 2 (gConsA (gNam 1) (gConsA (gNam 2) gNilA)))
    L1_checked_tasks)
  (sRet (aCb dTuple (aCons (aLc (iSeqA (aVar 0)) (gNam 2) aYes (aCb dTuple (aCons (aVar 2) aNil)) [2]) aNil))))))
noncomputable def A_are_within : AF := runB false 3 4
  (sRet (aAndV (aCall A_is_sequence (aCons (aVar 0) aNil)) (aCb dAll (aCons (aLc (iSeqA (aVar 0)) (gNam 3) aYes (aCall A_is_within (aCons (aVar 3) (aCons (aVar 1) (aCons (aVar 2) aNil)))) [3]) aNil))))
noncomputable def A_is_pair : AF := runB false 2 2
  (sRet (aAndV (aCall A_has_length (aCons (aVar 0) (aCons (aC (.int 2)) (aCons (aC (.int 2)) aNil)))) (aAndV (aCall A_are_within (aCons (aVar 0) (aCons (aC (.int 0)) (aCons (aOp dSub (aVar 1) (aC (.int 1))) aNil)))) (aOp (dEq true) (aOp dIx (aVar 0) (aC (.int 0))) (aOp dIx (aVar 0) (aC (.int 1)))))))
noncomputable def L1_put_behind : ASt :=
  (sIf (aOr (aB (aOp (dEq false) (aVar 4) (aVar 1))) (aTru (aOp dAnd (aOp dShr (aOp dIx (aVar 0) (aVar 4)) (aVar 1)) (aC (.int 1)))))
    (sAsg (aOp dOr (aOp dIx (aVar 0) (aVar 4)) (aVar 3)) (gSubA (aVar 0) (aVar 4)))
    sNil)
noncomputable def A_put_behind : AF := runB false 3 5
  (sSeq (sSet 3 (aOp dOr (aOp dIx (aVar 0) (aVar 2)) (aOp dShl (aC (.int 1)) (aVar 2))))
  (sFor (iRg1 (aCons (aCb dLen (aCons (aVar 0) aNil)) aNil)) (gNam 4)
    L1_put_behind))
noncomputable def L1_checked_order : ASt :=
  (sSeq (sIf (aNot (aB (aCall A_is_pair (aCons (aVar 5) (aCons (aVar 1) aNil)))))
    (sRaise "BadPair" (aVar 4))
    sNil)
  (sSeq (sAsg (aVar 5) (gUn 2 (gConsA (gNam 6) (gConsA (gNam 7) gNilA))))
  (sSeq (sIf (aOr (aB (aOp (dIn false) (aTup (aCons (aVar 6) (aCons (aVar 7) aNil))) (aVar 2))) (aTru (aOp dAnd (aOp dShr (aOp dIx (aVar 3) (aVar 7)) (aVar 6)) (aC (.int 1)))))
    (sRaise "BadPair" (aVar 4))
    sNil)
  (sSeq (sExp (aApp (aVar 2) (aTup (aCons (aVar 6) (aCons (aVar 7) aNil)))))
  (sExp (aCall A_put_behind (aCons (aVar 3) (aCons (aVar 6) (aCons (aVar 7) aNil)))))))))
noncomputable def A_checked_order : AF := runB false 2 8
  (sSeq (sIf (aNot (aB (aCall A_is_sequence (aCons (aVar 0) aNil))))
    (sRaise "BadValue" (aC (.int 2)))
    sNil)
  (sSeq (sIf (aB (aOp dGt (aCb dLen (aCons (aVar 0) aNil)) (aC (.int 200))))
    (sRaise "TooMany" (aC (.str "pairs")))
    sNil)
  (sSeq (sSet 2 (aLs aNil))
  (sSeq (sSet 3 (aRep (aVl (aCons (aC (.int 0)) aNil)) (aVar 1)))
  (sSeq (sFor (iEnA (aCons (aVar 0) aNil)) (gUn 2 (gConsA (gNam 4) (gConsA (gNam 5) gNilA)))
    L1_checked_order)
  (sRet (aCb dTuple (aCons (aVar 2) aNil))))))))
noncomputable def L1_is_ascending : ASt :=
  (sSeq (sIf (aNot (aB (aCall A_is_within (aCons (aVar 3) (aCons (aVar 2) (aCons (aOp dSub (aVar 1) (aC (.int 1))) aNil))))))
    (sRet (aC (.bl false)))
    sNil)
  (sSet 2 (aOp dAdd (aVar 3) (aC (.int 1)))))
noncomputable def A_is_ascending : AF := runB false 2 4
  (sSeq (sIf (aNot (aB (aCall A_is_sequence (aCons (aVar 0) aNil))))
    (sRet (aC (.bl false)))
    sNil)
  (sSeq (sSet 2 (aC (.int 0)))
  (sSeq (sFor (iSeqA (aVar 0)) (gNam 3)
    L1_is_ascending)
  (sRet (aC (.bl true))))))
noncomputable def L1_checked_models : ASt :=
  (sIf (aNot (aB (aCall A_is_ascending (aCons (aVar 3) (aCons (aVar 1) aNil)))))
    (sRaise "BadModel" (aVar 2))
    sNil)
noncomputable def A_checked_models : AF := runB false 2 4
  (sSeq (sIf (aOr (aNot (aB (aCall A_is_sequence (aCons (aVar 0) aNil)))) (aB (aOp (dEq false) (aCb dLen (aCons (aVar 0) aNil)) (aC (.int 0)))))
    (sRaise "BadValue" (aC (.int 3)))
    sNil)
  (sSeq (sIf (aB (aOp dGt (aCb dLen (aCons (aVar 0) aNil)) (aC (.int 8))))
    (sRaise "TooMany" (aC (.str "models")))
    sNil)
  (sSeq (sFor (iEnA (aCons (aVar 0) aNil)) (gUn 2 (gConsA (gNam 2) (gConsA (gNam 3) gNilA)))
    L1_checked_models)
  (sRet (aCb dTuple (aCons (aLc (iSeqA (aVar 0)) (gNam 3) aYes (aCb dTuple (aCons (aVar 3) aNil)) [3]) aNil))))))
noncomputable def A_is_arc : AF := runB false 3 3
  (sRet (aAndV (aCall A_has_length (aCons (aVar 0) (aCons (aC (.int 2)) (aCons (aC (.int 2)) aNil)))) (aAndV (aCall A_is_within (aCons (aOp dIx (aVar 0) (aC (.int 0))) (aCons (aC (.int 0)) (aCons (aOp dSub (aVar 1) (aC (.int 1))) aNil)))) (aCall A_is_within (aCons (aOp dIx (aVar 0) (aC (.int 1))) (aCons (aC (.int 0)) (aCons (aOp dSub (aVar 2) (aC (.int 1))) aNil)))))))
noncomputable def L1_is_state : ASt :=
  (sSeq (sIf (aOr (aNot (aB (aCall A_is_arc (aCons (aVar 4) (aCons (aVar 1) (aCons (aVar 2) aNil)))))) (aB (aOp (dIn false) (aCb dTuple (aCons (aVar 4) aNil)) (aVar 3))))
    (sRet (aC (.bl false)))
    sNil)
  (sExp (aApp (aVar 3) (aCb dTuple (aCons (aVar 4) aNil)))))
noncomputable def A_is_state : AF := runB false 3 5
  (sSeq (sIf (aNot (aB (aCall A_has_length (aCons (aVar 0) (aCons (aC (.int 1)) (aCons (aC (.int 40)) aNil))))))
    (sRet (aC (.bl false)))
    sNil)
  (sSeq (sSet 3 (aLs aNil))
  (sSeq (sFor (iSeqA (aVar 0)) (gNam 4)
    L1_is_state)
  (sRet (aC (.bl true))))))
noncomputable def L1_checked_states : ASt :=
  (sIf (aNot (aB (aCall A_is_state (aCons (aVar 3) (aCons (aVar 1) (aCons (aCb dLen (aCons (aVar 0) aNil)) aNil))))))
    (sRaise "BadState" (aVar 2))
    sNil)
noncomputable def A_checked_states : AF := runB false 2 5
  (sSeq (sIf (aOr (aNot (aB (aCall A_is_sequence (aCons (aVar 0) aNil)))) (aB (aOp (dEq false) (aCb dLen (aCons (aVar 0) aNil)) (aC (.int 0)))))
    (sRaise "BadValue" (aC (.int 4)))
    sNil)
  (sSeq (sIf (aB (aOp dGt (aCb dLen (aCons (aVar 0) aNil)) (aC (.int 60))))
    (sRaise "TooMany" (aC (.str "states")))
    sNil)
  (sSeq (sFor (iEnA (aCons (aVar 0) aNil)) (gUn 2 (gConsA (gNam 2) (gConsA (gNam 3) gNilA)))
    L1_checked_states)
  (sRet (aCb dTuple (aCons (aLc (iSeqA (aVar 0)) (gNam 3) aYes (aCb dTuple (aCons (aLc (iSeqA (aVar 3)) (gNam 4) aYes (aCb dTuple (aCons (aVar 4) aNil)) [4]) aNil)) [3]) aNil))))))
noncomputable def A_is_slips : AF := runB false 1 1
  (sRet (aOrV (aOp (dIs false) (aVar 0) (aC .non)) (aCall A_is_within (aCons (aVar 0) (aCons (aC (.int 0)) (aCons (aC (.int 8)) aNil))))))
noncomputable def A_Line___init__ : AF := runB false 7 11
  (sSeq (sSet 7 (aCall A_checked_tasks (aCons (aVar 1) aNil)))
  (sSeq (sSet 8 (aCall A_checked_order (aCons (aVar 2) (aCons (aCb dLen (aCons (aVar 7) aNil)) aNil))))
  (sSeq (sSet 9 (aCall A_checked_models (aCons (aVar 3) (aCons (aCb dLen (aCons (aVar 7) aNil)) aNil))))
  (sSeq (sSet 10 (aCall A_checked_states (aCons (aVar 4) (aCons (aCb dLen (aCons (aVar 9) aNil)) aNil))))
  (sSeq (sIf (aNot (aB (aCall A_is_within (aCons (aVar 5) (aCons (aC (.int 0)) (aCons (aOp dSub (aCb dLen (aCons (aVar 10) aNil)) (aC (.int 1))) aNil))))))
    (sRaise "BadValue" (aC (.int 5)))
    sNil)
  (sSeq (sIf (aNot (aB (aCall A_is_slips (aCons (aVar 6) aNil))))
    (sRaise "BadValue" (aC (.int 6)))
    sNil)
  (sSeq (sFldA ["Line"] "_tasks" (aVar 0) (aVar 7))
  (sSeq (sFldA ["Line"] "_order" (aVar 0) (aVar 8))
  (sSeq (sFldA ["Line"] "_models" (aVar 0) (aVar 9))
  (sSeq (sFldA ["Line"] "_states" (aVar 0) (aVar 10))
  (sSeq (sFldA ["Line"] "_start" (aVar 0) (aVar 5))
  (sFldA ["Line"] "_slips" (aVar 0) (aVar 6)))))))))))))
noncomputable def A__law_made : AF := runB false 2 3
  (sSeq (sSet 2 (aCall (A__law_loose 4) (aCons (aOp dIx (aVar 0) (aC (.int 0))) (aCons (aVar 1) aNil))))
  (sRet (aMake false "Line" A_Line___init__ 5 1 (aCons (aVar 2) (aCons (aCall (A__law_loose 4) (aCons (aOp dIx (aVar 0) (aC (.int 1))) (aCons (aOp dAdd (aVar 1) (aC (.int 1))) aNil))) (aCons (aCall (A__law_loose 4) (aCons (aOp dIx (aVar 0) (aC (.int 2))) (aCons (aVar 1) aNil))) (aCons (aCall (A__law_loose 4) (aCons (aOp dIx (aVar 0) (aC (.int 3))) (aCons (aVar 1) aNil))) (aCons (aOp dIx (aVar 0) (aC (.int 4))) aNil))))) (aCons (aOp dIx (aVar 0) (aC (.int 5))) aNil))))
noncomputable def A_with_slips : AF := runB false 2 2
  (sSeq (sIf (aNot (aB (aCall A_is_slips (aCons (aVar 1) aNil))))
    (sRaise "BadValue" (aC (.int 2)))
    sNil)
  (sRet (aMake false "Line" A_Line___init__ 5 1 (aCons (aFld ["Line"] "_tasks" (aVar 0)) (aCons (aFld ["Line"] "_order" (aVar 0)) (aCons (aFld ["Line"] "_models" (aVar 0)) (aCons (aFld ["Line"] "_states" (aVar 0)) (aCons (aFld ["Line"] "_start" (aVar 0)) aNil))))) (aCons (aVar 1) aNil))))
noncomputable def A_with_times : AF := runB false 2 2
  (sSeq (sIf (aOr (aNot (aB (aCall A_is_sequence (aCons (aVar 1) aNil)))) (aB (aOp (dEq true) (aCb dLen (aCons (aVar 1) aNil)) (aCb dLen (aCons (aFld ["Line"] "_tasks" (aVar 0)) aNil)))))
    (sRaise "BadValue" (aC (.int 2)))
    sNil)
  (sRet (aMake false "Line" A_Line___init__ 5 1 (aCons (aVar 1) (aCons (aFld ["Line"] "_order" (aVar 0)) (aCons (aFld ["Line"] "_models" (aVar 0)) (aCons (aFld ["Line"] "_states" (aVar 0)) (aCons (aFld ["Line"] "_start" (aVar 0)) aNil))))) (aCons (aFld ["Line"] "_slips" (aVar 0)) aNil))))
noncomputable def A_repeated : AF := runB false 2 6
  (sSeq (sIf (aOr (aNot (aB (aCall A_has_length (aCons (aVar 1) (aCons (aC (.int 1)) (aCons (aC (.int 40)) aNil)))))) (aNot (aB (aCall A_are_within (aCons (aVar 1) (aCons (aC (.int 0)) (aCons (aOp dSub (aCb dLen (aCons (aFld ["Line"] "_models" (aVar 0)) aNil)) (aC (.int 1))) aNil)))))))
    (sRaise "BadValue" (aC (.int 2)))
    sNil)
  (sSeq (sSet 2 (aOp dSub (aCb dLen (aCons (aVar 1) aNil)) (aC (.int 1))))
  (sSeq (sSet 3 (aLc (iEnA (aCons (aVar 1) aNil)) (gUn 2 (gConsA (gNam 4) (gConsA (gNam 5) gNilA))) aYes (aVl (aCons (aTup (aCons (aVar 5) (aCons (aIf (aB (aOp dLt (aVar 4) (aVar 2))) (aOp dAdd (aVar 4) (aC (.int 1))) (aC (.int 0))) aNil))) aNil)) [4, 5]))
  (sRet (aMake false "Line" A_Line___init__ 5 1 (aCons (aFld ["Line"] "_tasks" (aVar 0)) (aCons (aFld ["Line"] "_order" (aVar 0)) (aCons (aFld ["Line"] "_models" (aVar 0)) (aCons (aVar 3) (aCons (aC (.int 0)) aNil))))) (aCons (aFld ["Line"] "_slips" (aVar 0)) aNil))))))
noncomputable def A_free_line : AF := runB false 4 7
  (sSeq (sSet 4 (aIf (aB (aCall A_is_sequence (aCons (aVar 2) aNil))) (aCb dLen (aCons (aVar 2) aNil)) (aC (.int 0))))
  (sSeq (sSet 5 (aLc (iRg1 (aCons (aVar 4) aNil)) (gNam 6) aYes (aTup (aCons (aVar 6) (aCons (aC (.int 0)) aNil))) [6]))
  (sRet (aMake false "Line" A_Line___init__ 5 1 (aCons (aVar 0) (aCons (aVar 1) (aCons (aVar 2) (aCons (aVl (aCons (aVar 5) aNil)) (aCons (aC (.int 0)) aNil))))) (aCons (aVar 3) aNil)))))
noncomputable def A__law_made_fault : AF := runB false 5 6
  (sSeq (sTry errCs (sIf (aB (aOp (dEq false) (aVar 0) (aC (.int 0))))
    (sExp (aCall A_with_slips (aCons (aVar 1) (aCons (aVar 2) aNil))))
    (sIf (aB (aOp (dEq false) (aVar 0) (aC (.int 1))))
    (sExp (aCall A_with_times (aCons (aVar 1) (aCons (aVar 2) aNil))))
    (sIf (aB (aOp (dEq false) (aVar 0) (aC (.int 2))))
    (sExp (aCall A_repeated (aCons (aVar 1) (aCons (aVar 2) aNil))))
    (sExp (aCallK A_free_line 3 1 (aCons (aVar 1) (aCons (aVar 2) (aCons (aVar 3) aNil))) (aCons (aVar 4) aNil)))))) [("BadValue", 5, (fun x => .tup [.str "value", x])), ("BadTask", 5, (fun x => .tup [.str "task", x])), ("BadPair", 5, (fun x => .tup [.str "pair", x])), ("BadModel", 5, (fun x => .tup [.str "model", x])), ("TooMany", 5, (fun x => .tup [.str "many", x]))])
  (sRet (aC .non)))
noncomputable def A__law_set : AF := runB false 3 4
  (sSeq (sSet 3 (aCb dListR (aCons (aVar 0) aNil)))
  (sSeq (sAsg (aVar 2) (gSubA (aVar 3) (aVar 1)))
  (sRet (aCb dTuple (aCons (aVar 3) aNil)))))
noncomputable def A_law : ASt :=
  (sSeq (sSet 2 (aLs (aCons (aC (.int 0)) aNil)))
  (sSeq (sSet 3 (aCall A__law_case (aCons (aVar 1) (aCons (aVar 2) aNil))))
  (sSeq (sSet 4 (aCall A__law_made (aCons (aVar 3) (aCons (aC (.int 0)) aNil))))
  (sSeq (sSet 5 (aCb dLen (aCons (aOp dIx (aVar 3) (aC (.int 0))) aNil)))
  (sSeq (sIf (aB (aOp (dEq true) (aCall A__law_made_fault (aCons (aC (.int 0)) (aCons (aVar 4) (aCons (aOp dIx (aVl (aCons (aC (.int 9)) (aCons (aNeg (aC (.int 1))) (aCons (aC (.bl true)) (aCons (aC (.str "0")) (aCons (aTup aNil) aNil)))))) (aCall A__law_take (aCons (aVar 1) (aCons (aVar 2) (aCons (aC (.int 5)) aNil))))) (aCons (aC (.int 0)) (aCons (aC (.int 0)) aNil)))))) (aTup (aCons (aC (.str "value")) (aCons (aC (.int 2)) aNil)))))
    (sRet (aC (.bl false)))
    sNil)
  (sSeq (sIf (aB (aOp (dEq true) (aCall A__law_made_fault (aCons (aC (.int 1)) (aCons (aVar 4) (aCons (aOp dIx (aVl (aCons (aSl (aOp dIx (aVar 3) (aC (.int 0))) (aPart (aC (.int 1))) aNo) (aCons (aOp dAdd (aOp dIx (aVar 3) (aC (.int 0))) (aTup (aCons (aTup (aCons (aC (.int 1)) (aCons (aC (.int 1)) aNil))) aNil))) (aCons (aC .non) (aCons (aC (.int 5)) (aCons (aC (.str "ab")) aNil)))))) (aCall A__law_take (aCons (aVar 1) (aCons (aVar 2) (aCons (aC (.int 5)) aNil))))) (aCons (aC (.int 0)) (aCons (aC (.int 0)) aNil)))))) (aTup (aCons (aC (.str "value")) (aCons (aC (.int 2)) aNil)))))
    (sRet (aC (.bl false)))
    sNil)
  (sSeq (sSet 6 (aCall A__law_take (aCons (aVar 1) (aCons (aVar 2) (aCons (aVar 5) aNil)))))
  (sSeq (sSet 7 (aCall A__law_set (aCons (aOp dIx (aVar 3) (aC (.int 0))) (aCons (aVar 6) (aCons (aOp dIx (aVl (aCons (aTup (aCons (aC (.int 2)) (aCons (aC (.int 1)) aNil))) (aCons (aTup (aCons (aC (.int 0)) (aCons (aC (.int 10001)) aNil))) (aCons (aC .non) (aCons (aTup (aCons (aC (.int 1)) aNil)) (aCons (aC (.str "12")) (aCons (aTup (aCons (aC (.bl true)) (aCons (aC (.int 2)) aNil))) aNil))))))) (aCall A__law_take (aCons (aVar 1) (aCons (aVar 2) (aCons (aC (.int 6)) aNil))))) aNil)))))
  (sSeq (sIf (aOr (aB (aOp (dEq true) (aCall A__law_made_fault (aCons (aC (.int 1)) (aCons (aVar 4) (aCons (aVar 7) (aCons (aC (.int 0)) (aCons (aC (.int 0)) aNil)))))) (aTup (aCons (aC (.str "task")) (aCons (aVar 6) aNil))))) (aB (aOp (dEq true) (aCall A__law_made_fault (aCons (aC (.int 3)) (aCons (aVar 7) (aCons (aOp dIx (aVar 3) (aC (.int 1))) (aCons (aOp dIx (aVar 3) (aC (.int 2))) (aCons (aC (.int 9)) aNil)))))) (aTup (aCons (aC (.str "task")) (aCons (aVar 6) aNil))))))
    (sRet (aC (.bl false)))
    sNil)
  (sSeq (sSet 8 (aVl (aCons (aTup aNil) (aCons (aC .non) (aCons (aC (.int 5)) (aCons (aC (.str "0")) (aCons (aTup (aCons (aCb dLen (aCons (aOp dIx (aVar 3) (aC (.int 2))) aNil)) aNil)) (aCons (aTup (aCons (aC (.int 0)) (aCons (aNeg (aC (.int 1))) aNil))) (aCons (aTup (aCons (aC (.bl true)) aNil)) (aCons (aCb dTuple (aCons (aLc (iRg1 (aCons (aC (.int 41)) aNil)) (gNam 9) aYes (aC (.int 0)) [9]) aNil)) aNil))))))))))
  (sSeq (sIf (aB (aOp (dEq true) (aCall A__law_made_fault (aCons (aC (.int 2)) (aCons (aVar 4) (aCons (aOp dIx (aVar 8) (aCall A__law_take (aCons (aVar 1) (aCons (aVar 2) (aCons (aC (.int 8)) aNil))))) (aCons (aC (.int 0)) (aCons (aC (.int 0)) aNil)))))) (aTup (aCons (aC (.str "value")) (aCons (aC (.int 2)) aNil)))))
    (sRet (aC (.bl false)))
    sNil)
  (sSeq (sIf (aB (aOp (dEq true) (aCall A__law_made_fault (aCons (aC (.int 3)) (aCons (aOp dIx (aVar 3) (aC (.int 0))) (aCons (aOp dAdd (aOp dIx (aVar 3) (aC (.int 1))) (aTup (aCons (aTup (aCons (aC (.int 0)) (aCons (aC (.int 0)) aNil))) aNil))) (aCons (aC .non) (aCons (aC (.int 0)) aNil)))))) (aTup (aCons (aC (.str "pair")) (aCons (aCb dLen (aCons (aOp dIx (aVar 3) (aC (.int 1))) aNil)) aNil)))))
    (sRet (aC (.bl false)))
    sNil)
  (sSeq (sIf (aB (aOp (dEq true) (aCall A__law_made_fault (aCons (aC (.int 3)) (aCons (aOp dIx (aVar 3) (aC (.int 0))) (aCons (aOp dIx (aVar 3) (aC (.int 1))) (aCons (aOp dAdd (aOp dIx (aVar 3) (aC (.int 2))) (aTup (aCons (aTup (aCons (aVar 5) aNil)) aNil))) (aCons (aC (.int 0)) aNil)))))) (aTup (aCons (aC (.str "model")) (aCons (aCb dLen (aCons (aOp dIx (aVar 3) (aC (.int 2))) aNil)) aNil)))))
    (sRet (aC (.bl false)))
    sNil)
  (sRet (aAndV (aOp (dEq false) (aCall A__law_made_fault (aCons (aC (.int 3)) (aCons (aOp dIx (aVar 3) (aC (.int 0))) (aCons (aOp dIx (aVar 3) (aC (.int 1))) (aCons (aOp dIx (aVar 3) (aC (.int 2))) (aCons (aC (.int 9)) aNil)))))) (aTup (aCons (aC (.str "value")) (aCons (aC (.int 6)) aNil)))) (aOp (dIs false) (aCall A__law_made_fault (aCons (aC (.int 3)) (aCons (aOp dIx (aVar 3) (aC (.int 0))) (aCons (aOp dIx (aVar 3) (aC (.int 1))) (aCons (aOp dIx (aVar 3) (aC (.int 2))) (aCons (aC .non) aNil)))))) (aC .non)))))))))))))))))
def δ_law (ms : List Int) : AEnv := δrow 10 1 ms
end Mr
/-! the law's helpers, by their mirrors -/
namespace Mr
open PySem PySem.Spec PyProof.Rows L2 Aq
abbrev rowD (R : List Int) : D := .vl (R.map D.int)
theorem fin_int {h : AH} {i : Int} (hc : HC h) : fin false h.length (.int i) h = .ok (.int i) h := by
  have := fin_val (n := h.length) (d := .int i) (h := h) (hc.take _) rfl
  rwa [List.take_length] at this
theorem row_at {R : List Int} {i : Int} (h0 : 0 ≤ i) (hl : i < R.length) : ∃ z, (R.map D.int)[i.toNat]? = some (.int z) := by
  have hl' : i.toNat < R.length := by omega
  exact ⟨R[i.toNat], by rw [List.getElem?_map, List.getElem?_eq_getElem hl']; rfl⟩
theorem draw_e {R : List Int} {n m : Int} {h : AH} (hR : 0 < R.length) (h0 : 0 ≤ n) (hm : 0 < m) (hc : HC h) : ∃ r, A__law_draw [rowD R, .int n, .int m] h = .ok (.int r) h ∧ 0 ≤ r ∧ r < m := by
  unfold A__law_draw
  by_cases hl : n < R.length
  · obtain ⟨z, hz⟩ := row_at h0 hl
    refine ⟨z % m, (runB_rt rfl (h' := h) (d := .int (z % m)) ?_).trans (fin_int hc), Int.emod_nonneg _ (by omega), Int.emod_lt_of_pos _ hm⟩
    simp [startA, hl, dIx_vl h0 hz, hm]
  · have hp : (0 : Int) < R.length := by omega
    obtain ⟨z, hz⟩ := row_at (R := R) (i := n % R.length) (Int.emod_nonneg _ (by omega)) (Int.emod_lt_of_pos _ hp)
    refine ⟨_, (runB_rt rfl (h' := h) (d := .int (((z * 40692 + n * 7919 + 3) % 2147483399 * 48271 + n) % 2147483647 % m)) ?_).trans (fin_int hc), Int.emod_nonneg _ (by omega), Int.emod_lt_of_pos _ hm⟩
    have e : dIx (.vl (R.map D.int)) (.int (n % R.length)) h = .ok (.int z) h := dIx_vl (Int.emod_nonneg _ (by omega)) hz
    simp [startA, hl, dMod_i hp, e, dMul_r, hm]
/-- the spot's cell -/
structure St (s : Nat) (n : Int) (h : AH) : Prop where
  cell : h[s]? = some (.lst [.int n])
  nn : 0 ≤ n
  hc : HC h
def bump (h : AH) (s : Nat) (n : Int) : AH := h.set s (.lst [.int n])
theorem St.up {s : Nat} {n n' : Int} {h : AH} (S : St s n h) (h0 : 0 ≤ n') : St s n' (bump h s n') := ⟨by
  have := (List.getElem?_eq_some_iff.mp S.cell).1
  unfold bump
  rw [List.getElem?_set_self this], h0, S.hc.set _ rfl⟩
theorem bump_bump {h : AH} {s : Nat} {n n' : Int} : bump (bump h s n) s n' = bump h s n' := by
  unfold bump
  rw [List.set_set]
@[simp] theorem bump_length {h : AH} {s : Nat} {n : Int} : (bump h s n).length = h.length := by
  unfold bump
  rw [List.length_set]
theorem St.same {s : Nat} {n : Int} {h : AH} (S : St s n h) : h = bump h s n := by
  unfold bump
  have hl := (List.getElem?_eq_some_iff.mp S.cell).1
  have e := (List.getElem?_eq_some_iff.mp S.cell).2
  refine (List.ext_getElem? fun i => ?_)
  rw [List.getElem?_set]
  split
  · rename_i hi
    subst hi
    exact S.cell
  · rfl
theorem take_e {R : List Int} {s : Nat} {n m : Int} {h : AH} (hR : 0 < R.length) (S : St s n h) (hm : 0 < m) : ∃ r, A__law_take [rowD R, .ref s, .int m] h = .ok (.int r) (bump h s (n + 1)) ∧ 0 ≤ r ∧ r < m := by
  have S2 := S.up (n' := n + 1) (by have := S.nn; omega)
  obtain ⟨r, e, h0, h1⟩ := draw_e hR S.nn hm S2.hc
  refine ⟨r, ?_, h0, h1⟩
  unfold A__law_take
  refine (runB_rt rfl (h' := bump h s (n + 1)) (d := .int r) ?_).trans ?_
  · have g : gSubA (aVar 1) (aC (.int 0)) (.int (n + 1)) [some (rowD R), some (.ref s), some (.int m)] h = .ok _ (bump h s (n + 1)) := gSub_e (h1 := h) (h2 := h) (xs := [.int n]) (i' := 0) (i := 0) rfl rfl S.cell rfl
    have e1 : dIx (.ref s) (.int 0) h = .ok (.int n) h := dIx_ref (Int.le_refl 0) S.cell rfl
    have e2 : dIx (.ref s) (.int 0) (bump h s (n + 1)) = .ok (.int (n + 1)) (bump h s (n + 1)) := dIx_ref (Int.le_refl 0) S2.cell rfl
    have e3 : n + 1 - 1 = n := by omega
    simp [startA, e1, g, e2, e3, e]
  · have := fin_int (i := r) S2.hc
    rwa [bump_length] at this
end Mr
/-! what the law draws -/
namespace Mr
open PySem PySem.Spec PyProof.Rows L2 Aq
section
variable {R : List Int} {s : Nat} {n : Int} {h : AH}
/-- the answer r: plain data of which P holds, the spot gone on -/
def Gets (s : Nat) (n : Int) (h : AH) (r : Mr.R D) (P : D → Prop) : Prop := ∃ d n', n ≤ n' ∧ r = .ok d (bump h s n') ∧ d.clo 0 = true ∧ P d
theorem Gets.imp {r : Mr.R D} {P Q : D → Prop} (g : Gets s n h r P) (f : ∀ d, P d → Q d) : Gets s n h r Q := by
  obtain ⟨d, n', h1, h2, h3, h4⟩ := g
  exact ⟨d, n', h1, h2, h3, f d h4⟩
theorem fin_bump {h : AH} {s : Nat} {n : Int} {d : D} {k : Nat} (hc : HC h) (hk : k = h.length) (hd : d.clo 0 = true) : fin false k d (bump h s n) = .ok d (bump h s n) := by
  have hb : HC (bump h s n) := hc.set _ rfl
  have := fin_val (n := (bump h s n).length) (d := d) (h := bump h s n) (hb.take _) hd
  rw [List.take_length, bump_length, ← hk] at this
  exact this
theorem wide_e {m : Int} (hR : 0 < R.length) (S : St s n h) (hm : 0 < m) : Gets s n h (A__law_wide [rowD R, .ref s, .int m] h) fun d => ∃ r, d = .int r ∧ 0 ≤ r ∧ r < m := by
  have S0 := S.nn
  obtain ⟨a, e1, _⟩ := take_e hR S (m := 997) (by decide)
  have S1 := S.up (n' := n + 1) (by omega)
  obtain ⟨b, e2, _⟩ := take_e hR S1 (m := 997) (by decide)
  have S2 := S.up (n' := n + 1 + 1) (by omega)
  rw [bump_bump] at e2
  obtain ⟨c, e3, _⟩ := take_e hR S2 (m := 997) (by decide)
  rw [bump_bump] at e3
  refine ⟨.int ((a * 994009 + b * 997 + c) % m), n + 1 + 1 + 1, by omega, ?_, rfl, _, rfl, Int.emod_nonneg _ (by omega), Int.emod_lt_of_pos _ hm⟩
  unfold A__law_wide
  refine (runB_rt rfl (h' := bump h s (n + 1 + 1 + 1)) (d := .int ((a * 994009 + b * 997 + c) % m)) ?_).trans (fin_bump S.hc rfl rfl)
  simp [startA, e1, e2, e3, dMul_r, hm]
def isTime (d : D) : Prop := ∃ r, d = .int r ∧ 0 ≤ r ∧ r ≤ 10000
theorem time_e {k : Int} (hR : 0 < R.length) (S : St s n h) : Gets s n h (A__law_time [rowD R, .ref s, .int k] h) isTime := by
  have S0 := S.nn
  unfold A__law_time
  by_cases k0 : k = 0
  · obtain ⟨a, e1, a0, a1⟩ := take_e hR S (m := 7) (by decide)
    refine ⟨.int a, n + 1, by omega, (runB_rt rfl (h' := bump h s (n + 1)) (d := .int a) ?_).trans (fin_bump S.hc rfl rfl), rfl, a, rfl, a0, by omega⟩
    simp [startA, k0, e1]
  by_cases k1 : k = 1
  · obtain ⟨a, e1, a0, a1⟩ := take_e hR S (m := 100) (by decide)
    refine ⟨.int a, n + 1, by omega, (runB_rt rfl (h' := bump h s (n + 1)) (d := .int a) ?_).trans (fin_bump S.hc rfl rfl), rfl, a, rfl, a0, by omega⟩
    simp [startA, k1, e1]
  · obtain ⟨d, n1, l1, e1, _, a, rfl, a0, a1⟩ := wide_e hR S (m := 10001) (by decide)
    have S1 := S.up (n' := n1) (by omega)
    obtain ⟨b, e2, b0, b1⟩ := take_e hR S1 (m := 4) (by decide)
    rw [bump_bump] at e2
    have hb : ∃ r, [D.int 0, .int 1, .int 10000, .int a][b.toNat]? = some (.int r) ∧ 0 ≤ r ∧ r ≤ 10000 := by
      have : b = 0 ∨ b = 1 ∨ b = 2 ∨ b = 3 := by omega
      rcases this with rfl | rfl | rfl | rfl
      · exact ⟨0, rfl, by decide, by decide⟩
      · exact ⟨1, rfl, by decide, by decide⟩
      · exact ⟨10000, rfl, by decide, by decide⟩
      · exact ⟨a, rfl, a0, by omega⟩
    obtain ⟨r, hr, r0, r1⟩ := hb
    refine ⟨.int r, n1 + 1, by omega, (runB_rt rfl (h' := bump h s (n1 + 1)) (d := .int r) ?_).trans (fin_bump S.hc rfl rfl), rfl, r, rfl, r0, r1⟩
    simp [startA, k0, k1, e1, e2, dIx_vl b0 hr]
def isJob (d : D) : Prop := ∃ u v, d = .tup [.int u, .int v] ∧ 0 ≤ u ∧ u ≤ v ∧ v ≤ 10000
theorem task_e {k : Int} (hR : 0 < R.length) (S : St s n h) : Gets s n h (A__law_task [rowD R, .ref s, .int k] h) isJob := by
  have S0 := S.nn
  obtain ⟨d, n1, l1, e1, _, u, rfl, u0, u1⟩ := time_e hR S (k := k)
  have S1 := S.up (n' := n1) (by omega)
  obtain ⟨b, e2, b0, b1⟩ := take_e hR S1 (m := 2) (by decide)
  rw [bump_bump] at e2
  unfold A__law_task
  by_cases hb : b = 0
  · refine ⟨.tup [.int u, .int u], n1 + 1, by omega, (runB_rt rfl (h' := bump h s (n1 + 1)) (d := .tup [.int u, .int u]) ?_).trans (fin_bump S.hc rfl rfl), rfl, u, u, rfl, u0, Int.le_refl _, u1⟩
    simp [startA, e1, e2, hb]
  · have S2 := S.up (n' := n1 + 1) (by omega)
    obtain ⟨d, n2, l2, e3, _, v, rfl, v0, v1⟩ := time_e hR S2 (k := k)
    rw [bump_bump] at e3
    refine ⟨.tup [.int u, .int (if u + v < 10000 then u + v else 10000)], n2, by omega, (runB_rt rfl (h' := bump h s n2) (d := .tup [.int u, .int (if u + v < 10000 then u + v else 10000)]) ?_).trans (fin_bump S.hc rfl rfl), rfl, u, _, rfl, u0, ?_, ?_⟩
    · simp [startA, e1, e2, hb, e3]
    · split <;> omega
    · split <;> omega
end
end Mr
/-! what the law draws: pairs, models, states, lines -/
namespace Mr
open PySem PySem.Spec PyProof.Rows L2 Aq
section
variable {R : List Int} {s : Nat} {n : Int} {h : AH}
theorem St.lt (S : St s n h) : s < h.length := (List.getElem?_eq_some_iff.mp S.cell).1
theorem bump_push {l : List Cell} {n' : Int} (hl : s < h.length) : bump (h ++ l) s n' = bump h s n' ++ l := by
  unfold bump
  exact List.set_append_left _ _ hl
theorem St.push (S : St s n h) {c : Cell} (hc : c.clo 0 = true) : St s n (h ++ [c]) := ⟨by rw [List.getElem?_append_left S.lt]; exact S.cell, S.nn, S.hc.push hc⟩
/-- take over a heap with one more cell -/
theorem takeP_e {m n' : Int} {c : Cell} (hR : 0 < R.length) (S : St s n h) (hn : 0 ≤ n') (hm : 0 < m) (hc : c.clo 0 = true) :
    ∃ r, A__law_take [rowD R, .ref s, .int m] (bump h s n' ++ [c]) = .ok (.int r) (bump h s (n' + 1) ++ [c]) ∧ 0 ≤ r ∧ r < m := by
  have S1 := (S.up hn).push hc
  obtain ⟨r, e, h0, h1⟩ := take_e hR S1 hm
  refine ⟨r, ?_, h0, h1⟩
  rw [e, bump_push (by rw [bump_length]; exact S.lt), bump_bump]
theorem perm_erase {α : Type} : ∀ (l : List α) (i : Nat) (h : i < l.length), (l[i] :: l.eraseIdx i).Perm l
  | x :: l, 0, h => List.Perm.refl _
  | x :: l, i + 1, h => by
    have hl : i < l.length := by simpa using h
    show (l[i] :: x :: l.eraseIdx i).Perm (x :: l)
    exact (List.Perm.swap x l[i] (l.eraseIdx i)).trans ((perm_erase l i hl).cons x)
theorem clol_append : ∀ {xs ys : List D} {n : Nat}, cloL n xs = true → cloL n ys = true → cloL n (xs ++ ys) = true
  | [], ys, n, _, h => h
  | x :: xs, ys, n, h1, h2 => by
    obtain ⟨a, b⟩ := Bool.and_eq_true_iff.mp (show (x.clo n && cloL n xs) = true from h1)
    exact Bool.and_eq_true_iff.mpr ⟨a, clol_append b h2⟩
theorem clol_iff {n : Nat} : ∀ {xs : List D}, cloL n xs = true ↔ ∀ x ∈ xs, x.clo n = true
  | [] => ⟨fun _ _ m => (by cases m), fun _ => rfl⟩
  | x :: xs => by
    show (x.clo n && cloL n xs) = true ↔ _
    rw [Bool.and_eq_true, clol_iff, List.forall_mem_cons]
theorem mixed_e {xs : List D} (hR : 0 < R.length) (S : St s n h) (hx : cloL 0 xs = true) (hl : xs.length ≤ 1000) :
    Gets s n h (A__law_mixed [rowD R, .ref s, .vl xs] h) fun d => ∃ ys, d = .vl ys ∧ ys.Perm xs := by
  have S0 := S.nn
  have hs := S.lt
  unfold A__law_mixed
  have loop := for_run (items := rgD 0 xs.length) (g := gNam 5) (b := L1__law_mixed)
    (δ := [some (rowD R), some (.ref s), some (.vl xs), some (.vl xs), some (.ref h.length), none, none]) (h := h ++ [.lst []])
    (fun i δ hh => ∃ n' made left a5 a6, n ≤ n' ∧ δ = [some (rowD R), some (.ref s), some (.vl xs), some (.vl left), some (.ref h.length), a5, a6] ∧ hh = bump h s n' ++ [.lst made] ∧ (left ++ made).Perm xs ∧ made.length = i)
    ⟨n, [], xs, none, none, Int.le_refl _, rfl, by rw [← S.same], by simp, rfl⟩ ?_
  · obtain ⟨δ', h', e, n', made, left, a5, a6, l1, rfl, rfl, hp, hm⟩ := loop
    rw [rgD_length] at hm
    have hp' := hp.length_eq
    rw [List.length_append, hm] at hp'
    have hleft : left = [] := List.eq_nil_of_length_eq_zero (by omega)
    subst hleft
    rw [List.nil_append] at hp
    have hcl : cloL 0 made = true := clol_iff.mpr fun x m => clol_iff.mp hx x (hp.mem_iff.mp m)
    refine ⟨.vl made, n', l1, ?_, hcl, made, rfl, hp⟩
    refine Eq.trans (runB_rt (h' := bump h s n' ++ [.lst made]) (d := .ref h.length) rfl ?_) ?_
    · have ef := sFor_rg (t := aCons (aCb dLen (aCons (aVar 2) aNil)) aNil) (g := gNam 5) (b := L1__law_mixed)
        (δ := [some (rowD R), some (.ref s), some (.vl xs), some (.vl xs), some (.ref h.length), none, none]) (h := h ++ [.lst []]) (h1 := h ++ [.lst []]) (n := xs.length) rfl (by omega) (by omega)
      rw [Int.toNat_natCast, e] at ef
      refine (seq_set (d := .vl xs) (h1 := h) rfl).trans ?_
      refine (seq_set (d := .ref h.length) (h1 := h ++ [.lst []]) rfl).trans ?_
      refine (seq_nxt ef).trans ?_
      rfl
    · have hk : (bump h s n' ++ [Cell.lst made]).take h.length = bump h s n' := take_push (by rw [bump_length])
      have := fin_new (n := h.length) (i := h.length) (h := bump h s n' ++ [.lst made]) (ds := made) (by rw [hk]; exact S.hc.set _ rfl) (Nat.le_refl _) (get_push (by rw [bump_length])) hcl
      rw [hk] at this
      exact this
  · rintro i d δ hh hd ⟨n', made, left, a5, a6, l1, rfl, rfl, hp, hm⟩
    obtain ⟨hi, rfl⟩ := rgD_get hd
    have hp' := hp.length_eq
    rw [List.length_append, hm] at hp'
    have hcl : ∀ x ∈ left ++ made, x.clo 0 = true := fun x m => clol_iff.mp hx x (hp.mem_iff.mp m)
    have hcm : cloL 0 made = true := clol_iff.mpr fun x m => hcl x (List.mem_append_right _ m)
    obtain ⟨r, e1, r0, r1⟩ := takeP_e (c := .lst made) (n' := n') (m := left.length) hR S (by omega) (by omega) hcm
    have hr : r.toNat < left.length := by omega
    have hg : left[r.toNat]? = some left[r.toNat] := List.getElem?_eq_getElem hr
    refine ⟨_, _, [some (rowD R), some (.ref s), some (.vl xs), some (.vl (left.take r.toNat ++ left.drop (r.toNat + 1))), some (.ref h.length), some (.int i), some (.int r)], bump h s (n' + 1) ++ [.lst (made ++ [left[r.toNat]])], rfl, .inl ?_, n' + 1, made ++ [left[r.toNat]], _, _, _, by omega, rfl, rfl, ?_, by simp [hm]⟩
    · have ea := aApp_e (a := aVar 4) (b := aOp dIx (aVar 3) (aVar 6)) (δ := [some (rowD R), some (.ref s), some (.vl xs), some (.vl left), some (.ref h.length), some (.int i), some (.int r)]) (h := bump h s (n' + 1) ++ [.lst made]) (h1 := bump h s (n' + 1) ++ [.lst made]) (h2 := bump h s (n' + 1) ++ [.lst made]) (n := h.length) (xs := made) (zs := made) (d := left[r.toNat]) rfl (get_push (by rw [bump_length]))
        (by simp [dIx_vl r0 hg]) (get_push (by rw [bump_length])) (by omega)
      rw [set_push (by rw [bump_length])] at ea
      have c1 : cutD left none (some r) = left.take r.toNat := cut_take r0
      have c2 : cutD left (some (r + 1)) none = left.drop (r.toNat + 1) := by
        rw [cut_drop (by omega)]
        congr 1
        omega
      have s1 := fun δ hh (e : aVar 3 δ hh = .ok (.vl left) hh) (e2 : aPart (aVar 6) δ hh = .ok (some r) hh) => aSl_vl (a := aVar 3) (lo := aNo) (hi := aPart (aVar 6)) (l := none) (u := some r) e rfl e2
      have s2 := fun δ hh (e : aVar 3 δ hh = .ok (.vl left) hh) (e2 : aPart (aOp dAdd (aVar 6) (aC (.int 1))) δ hh = .ok (some (r + 1)) hh) => aSl_vl (a := aVar 3) (lo := aPart (aOp dAdd (aVar 6) (aC (.int 1)))) (hi := aNo) (l := some (r + 1)) (u := none) e e2 rfl
      unfold L1__law_mixed
      simp [e1, ea]
      rw [s1 _ _ rfl rfl, c1, Mr.R.bind_ok, s2 _ _ rfl rfl, c2, Mr.R.bind_ok, dAdd_vl (by simp; omega)]
      rfl
    · have h1 : (left.take r.toNat ++ left.drop (r.toNat + 1)) = left.eraseIdx r.toNat := (List.eraseIdx_eq_take_drop_succ ..).symm
      rw [h1]
      refine List.Perm.trans ?_ hp
      refine (List.Perm.append_left _ (List.perm_append_singleton left[r.toNat] made)).trans ?_
      refine List.perm_middle.trans ?_
      rw [← List.cons_append]
      exact List.Perm.append_right made (perm_erase left r.toNat hr)
end
end Mr
namespace Mr
open PySem PySem.Spec PyProof.Rows L2 Aq
section
variable {R : List Int} {s : Nat} {n : Int} {h : AH}
/-- pairs that a rank keeps in order -/
structure Ordd (count : Int) (ps : List P2) (rk : Int → Nat) : Prop where
  nd : ps.Nodup
  inn : ∀ p ∈ ps, 0 ≤ p.1 ∧ p.1 < count ∧ 0 ≤ p.2 ∧ p.2 < count
  rk : ∀ p ∈ ps, rk p.1 < rk p.2
theorem clo_pD (ps : List P2) : cloL 0 (ps.map pD) = true := clol_iff.mpr fun x m => by
  obtain ⟨p, _, rfl⟩ := List.mem_map.mp m
  rfl
theorem clo_rg (k : Nat) : cloL 0 (rgD 0 k) = true := clol_iff.mpr fun x m => by
  obtain ⟨p, _, rfl⟩ := List.mem_map.mp m
  rfl
theorem rg_perm {k : Nat} {ys : List D} (hp : ys.Perm (rgD 0 k)) : ∃ zs : List Int, ys = zs.map D.int ∧ zs.Nodup ∧ zs.length = k ∧ ∀ z ∈ zs, 0 ≤ z ∧ z < k := by
  have hg : rgD 0 k = ((List.range k).map fun i : Nat => (i : Int)).map D.int := by
    unfold rgD
    rw [List.map_map]
    refine List.map_congr_left fun i _ => ?_
    show D.int (0 + (i : Int)) = D.int i
    rw [Int.zero_add]
  rw [hg] at hp
  have hys : ys = (ys.map fun d => match d with | .int i => i | _ => 0).map D.int := by
    rw [List.map_map]
    refine (List.map_id ys).symm.trans (List.map_congr_left fun d m => ?_)
    obtain ⟨i, _, rfl⟩ := List.mem_map.mp (hp.mem_iff.mp m)
    rfl
  have hz := hp.map (fun d => match d with | .int i => i | _ => 0)
  rw [List.map_map] at hz
  have e2 : (List.range k).map ((fun i : Nat => (i : Int))) = ((List.range k).map fun i : Nat => (i : Int)).map ((fun d => match d with | D.int i => i | _ => 0) ∘ D.int) := by
    rw [List.map_map]
    rfl
  rw [← e2] at hz
  refine ⟨_, hys, ?_, ?_, fun z m => ?_⟩
  · refine hz.nodup_iff.mpr ?_
    exact List.Pairwise.map _ (fun a b (h : a ≠ b) e => h (Int.ofNat.inj e)) List.nodup_range
  · rw [hz.length_eq]
    simp
  · obtain ⟨i, hi, rfl⟩ := List.mem_map.mp (hz.mem_iff.mp m)
    have := List.mem_range.mp hi
    omega
theorem pair_step {zs : List Int} {ps : List P2} {a b : Int} {δ : AEnv} {hh : AH} {k : Nat} {c : List Cell} (hk : k = c.length) (ehh : hh = c ++ [.lst (ps.map pD)]) (q7 : δ[7]? = some (some (.int a))) (q8 : δ[8]? = some (some (.int b))) (q4 : δ[4]? = some (some (.vl (zs.map D.int)))) (q5 : δ[5]? = some (some (.ref k))) (hl9 : 9 < δ.length)
    (a0 : 0 ≤ a) (a1 : a < zs.length) (b0 : 0 ≤ b) (b1 : b < zs.length) (hab : ¬ a = b) (hps : ps.length < 1000) :
    ∃ p : P2, ∃ i j : Nat, i < j ∧ zs[i]? = some p.1 ∧ zs[j]? = some p.2 ∧ (sSeq (sSet 9 (aTup (aCons (aOp dIx (aVar 4) (aCb dMin2 (aCons (aVar 7) (aCons (aVar 8) aNil)))) (aCons (aOp dIx (aVar 4) (aCb dMax2 (aCons (aVar 7) (aCons (aVar 8) aNil)))) aNil))))
      (sIf (aB (aOp (dIn true) (aVar 9) (aVar 5))) (sExp (aApp (aVar 5) (aVar 9))) sNil)) δ hh = .nx (δ.set 9 (some (pD p))) (c ++ [.lst ((if p ∈ ps then ps else ps ++ [p]).map pD)]) := by
  subst ehh
  have hlo : (if b < a then b else a).toNat < (if b > a then b else a).toNat := by split <;> split <;> omega
  have hhi : (if b > a then b else a).toNat < zs.length := by split <;> omega
  generalize hi : (if b < a then b else a) = i at *
  generalize hj : (if b > a then b else a) = j at *
  have i0 : 0 ≤ i := by rw [← hi]; split <;> omega
  have j0 : 0 ≤ j := by rw [← hj]; split <;> omega
  have hx : (zs.map D.int)[i.toNat]? = some (.int zs[i.toNat]) := by
    rw [List.getElem?_map, List.getElem?_eq_getElem (by omega)]
    rfl
  have hy : (zs.map D.int)[j.toNat]? = some (.int zs[j.toNat]) := by
    rw [List.getElem?_map, List.getElem?_eq_getElem (by omega)]
    rfl
  have g := get_push (h := c) (c := Cell.lst (ps.map pD)) hk
  refine ⟨(zs[i.toNat], zs[j.toNat]), i.toNat, j.toNat, hlo, List.getElem?_eq_getElem (by omega), List.getElem?_eq_getElem (by omega), ?_⟩
  have i1 := dIx_vl (h := c ++ [.lst (ps.map pD)]) i0 hx
  have i2 := dIx_vl (h := c ++ [.lst (ps.map pD)]) j0 hy
  have e9 : (aTup (aCons (aOp dIx (aVar 4) (aCb dMin2 (aCons (aVar 7) (aCons (aVar 8) aNil)))) (aCons (aOp dIx (aVar 4) (aCb dMax2 (aCons (aVar 7) (aCons (aVar 8) aNil)))) aNil))) δ (c ++ [.lst (ps.map pD)]) = .ok (pD (zs[i.toNat], zs[j.toNat])) (c ++ [.lst (ps.map pD)]) := by
    simp only [aTup_e, aCons_e, aOp_e, aCb_e, aNil_e, aVar_e, q7, q8, q4, Mr.R.bind_ok, dMin2_e, dMax2_e, hi, hj, i1, i2]
    rfl
  refine (seq_set e9).trans ?_
  have hin : dIn true (pD (zs[i.toNat], zs[j.toNat])) (.ref k) (c ++ [.lst (ps.map pD)]) = .ok (.bl (!decide ((zs[i.toNat], zs[j.toNat]) ∈ ps))) (c ++ [.lst (ps.map pD)]) := dIn_pairs (neg := true) (by
    show ((c ++ [Cell.lst (ps.map pD)])[k]?).bind Cell.lst? = _
    rw [g]
    rfl)
  have v9 : (δ.set 9 (some (pD (zs[i.toNat], zs[j.toNat]))))[9]? = some (some (pD (zs[i.toNat], zs[j.toNat]))) := List.getElem?_set_self hl9
  have v5 : (δ.set 9 (some (pD (zs[i.toNat], zs[j.toNat]))))[5]? = some (some (.ref k)) := by
    rw [List.getElem?_set_ne (by decide)]
    exact q5
  have et : aB (aOp (dIn true) (aVar 9) (aVar 5)) (δ.set 9 (some (pD (zs[i.toNat], zs[j.toNat])))) (c ++ [.lst (ps.map pD)]) = .ok (!decide ((zs[i.toNat], zs[j.toNat]) ∈ ps)) (c ++ [.lst (ps.map pD)]) := by
    simp only [aB_e, aOp_e, aVar_e, v9, v5, Mr.R.bind_ok, hin, boolR_ok]
  by_cases hp : (zs[i.toNat], zs[j.toNat]) ∈ ps
  · rw [decide_eq_true hp] at et
    rw [if_f et, if_pos hp]
    rfl
  · rw [decide_eq_false hp] at et
    rw [if_t et, if_neg hp]
    have ap := aApp_e (a := aVar 5) (b := aVar 9) (δ := δ.set 9 (some (pD (zs[i.toNat], zs[j.toNat])))) (h := c ++ [.lst (ps.map pD)]) (h1 := c ++ [.lst (ps.map pD)]) (h2 := c ++ [.lst (ps.map pD)]) (n := k) (xs := ps.map pD) (zs := ps.map pD) (d := pD (zs[i.toNat], zs[j.toNat])) (by rw [aVar_e, v5]) g (by rw [aVar_e, v9]) g (by rw [List.length_map]; omega)
    rw [set_push hk] at ap
    rw [sExp_e, ap, List.map_append]
    rfl
theorem pairs_e {count many : Int} (hR : 0 < R.length) (S : St s n h) (hc0 : 0 < count) (hc1 : count ≤ 100) (hm0 : 0 ≤ many) (hm1 : many ≤ 1000) :
    Gets s n h (A__law_pairs_of [rowD R, .ref s, .int count, .int many] h) fun d => ∃ ps rk, d = .tup (ps.map pD) ∧ ps.length ≤ many.toNat ∧ Ordd count ps rk := by
  have S0 := S.nn
  have hs := S.lt
  obtain ⟨d, n1, l1, e1, _, ys, rfl, hp⟩ := mixed_e hR S (clo_rg count.toNat) (by rw [rgD_length]; omega)
  obtain ⟨zs, rfl, znd, zl, zin⟩ := rg_perm hp
  unfold A__law_pairs_of
  have loop := for_run (items := rgD 0 many.toNat) (g := gNam 6) (b := L1__law_pairs_of)
    (δ := [some (rowD R), some (.ref s), some (.int count), some (.int many), some (.vl (zs.map D.int)), some (.ref h.length), none, none, none, none]) (h := bump h s n1 ++ [.lst []])
    (fun i δ hh => ∃ n' ps a6 a7 a8 a9, n ≤ n' ∧ δ = [some (rowD R), some (.ref s), some (.int count), some (.int many), some (.vl (zs.map D.int)), some (.ref h.length), a6, a7, a8, a9] ∧ hh = bump h s n' ++ [.lst (ps.map pD)] ∧ ps.length ≤ i ∧ Ordd count ps (zs.idxOf ·))
    ⟨n1, [], none, none, none, none, l1, rfl, rfl, Nat.le_refl _, List.nodup_nil, fun p m => (by cases m), fun p m => (by cases m)⟩ ?_
  · obtain ⟨δ', h', e, n', ps, a6, a7, a8, a9, l2, rfl, rfl, hl, ho⟩ := loop
    rw [rgD_length] at hl
    refine ⟨.tup (ps.map pD), n', l2, ?_, clo_pD ps, ps, _, rfl, hl, ho⟩
    have ef := sFor_rg (t := aCons (aVar 3) aNil) (g := gNam 6) (b := L1__law_pairs_of)
      (δ := [some (rowD R), some (.ref s), some (.int count), some (.int many), some (.vl (zs.map D.int)), some (.ref h.length), none, none, none, none]) (h := bump h s n1 ++ [.lst []]) (h1 := bump h s n1 ++ [.lst []]) (n := many) rfl hm0 (by omega)
    rw [e] at ef
    refine Eq.trans (runB_rt (h' := bump h s n' ++ [.lst (ps.map pD)]) (d := .tup (ps.map pD)) rfl ?_) ?_
    · refine (seq_set (d := .vl (zs.map D.int)) (h1 := bump h s n1) ?_).trans ?_
      · exact call_e (cons_e rfl (cons_e rfl (cons_e (aRg_ok rfl (by omega) (by omega)) rfl))) e1
      refine (seq_set (d := .ref (bump h s n1).length) (h1 := bump h s n1 ++ [.lst []]) rfl).trans ?_
      rw [bump_length]
      refine (seq_nxt ef).trans ?_
      refine ret_e ?_
      simp [dTuple_ref (get_push (h := bump h s n') (c := .lst (ps.map pD)) (k := h.length) (by rw [bump_length]))]
    · have hk : (bump h s n' ++ [Cell.lst (ps.map pD)]).take h.length = bump h s n' := take_push (by rw [bump_length])
      have := fin_val (n := h.length) (h := bump h s n' ++ [.lst (ps.map pD)]) (d := .tup (ps.map pD)) (by rw [hk]; exact S.hc.set _ rfl) (clo_pD ps)
      rw [hk] at this
      exact this
  · rintro i d δ hh hd ⟨n', ps, a6, a7, a8, a9, l2, rfl, rfl, hl, ho⟩
    obtain ⟨hi, rfl⟩ := rgD_get hd
    obtain ⟨a, ea, a0, a1⟩ := takeP_e (c := .lst (ps.map pD)) (n' := n') (m := count) hR S (by omega) hc0 (clo_pD ps)
    obtain ⟨b, eb, b0, b1⟩ := takeP_e (c := .lst (ps.map pD)) (n' := n' + 1) (m := count) hR S (by omega) hc0 (clo_pD ps)
    by_cases hab : a = b
    · refine ⟨_, _, [some (rowD R), some (.ref s), some (.int count), some (.int many), some (.vl (zs.map D.int)), some (.ref h.length), some (.int i), some (.int a), some (.int b), a9], bump h s (n' + 1 + 1) ++ [.lst (ps.map pD)], rfl, .inl ?_, n' + 1 + 1, ps, _, _, _, _, by omega, rfl, rfl, by omega, ho⟩
      unfold L1__law_pairs_of
      simp [ea, eb, hab]
    obtain ⟨p, x, y, hxy, hx, hy, e⟩ := pair_step (zs := zs) (ps := ps) (a := a) (b := b) (δ := [some (rowD R), some (.ref s), some (.int count), some (.int many), some (.vl (zs.map D.int)), some (.ref h.length), some (.int i), some (.int a), some (.int b), a9]) (k := h.length) (c := bump h s (n' + 1 + 1)) (by rw [bump_length]) rfl rfl rfl rfl rfl (by simp) a0 (by omega) b0 (by omega) hab (by omega)
    refine ⟨_, _, [some (rowD R), some (.ref s), some (.int count), some (.int many), some (.vl (zs.map D.int)), some (.ref h.length), some (.int i), some (.int a), some (.int b), some (pD p)], bump h s (n' + 1 + 1) ++ [.lst ((if p ∈ ps then ps else ps ++ [p]).map pD)], rfl, .inl ?_, n' + 1 + 1, (if p ∈ ps then ps else ps ++ [p]), _, _, _, _, by omega, rfl, rfl, ?_, ?_⟩
    · unfold L1__law_pairs_of
      refine (seq_set (d := .int a) (h1 := bump h s (n' + 1) ++ [.lst (ps.map pD)]) (by simp [ea])).trans ?_
      refine (seq_set (d := .int b) (h1 := bump h s (n' + 1 + 1) ++ [.lst (ps.map pD)]) (by simp [eb])).trans ?_
      refine (if_t (h1 := bump h s (n' + 1 + 1) ++ [.lst (ps.map pD)]) (by simp [hab])).trans ?_
      exact e
    · split
      · omega
      · rw [List.length_append, List.length_singleton]
        omega
    · split
      · exact ho
      rename_i hpin
      have z1 : p.1 ∈ zs := List.mem_of_getElem? hx
      have z2 : p.2 ∈ zs := List.mem_of_getElem? hy
      refine ⟨?_, fun q m => ?_, fun q m => ?_⟩
      · rw [List.nodup_append]
        exact ⟨ho.nd, by simp, fun x hx y hy e => hpin (by rw [List.mem_singleton.mp hy] at e; rwa [← e])⟩
      · rcases List.mem_append.mp m with m | m
        · exact ho.inn q m
        · rw [List.mem_singleton.mp m]
          have c1 := zin _ z1
          have c2 := zin _ z2
          omega
      · rcases List.mem_append.mp m with m | m
        · exact ho.rk q m
        · rw [List.mem_singleton.mp m]
          obtain ⟨lx, rfl'⟩ := List.getElem?_eq_some_iff.mp hx
          obtain ⟨ly, rfl''⟩ := List.getElem?_eq_some_iff.mp hy
          show zs.idxOf p.1 < zs.idxOf p.2
          rw [← rfl', ← rfl'', znd.idxOf_getElem, znd.idxOf_getElem]
          exact hxy
end
end Mr
namespace Mr
open PySem PySem.Spec PyProof.Rows L2 Aq
section
variable {R : List Int} {s : Nat} {n : Int} {h : AH}
/-- ascending numbers below count -/
def Asc (count : Int) (zs : List Int) : Prop := zs.Pairwise (· < ·) ∧ ∀ z ∈ zs, 0 ≤ z ∧ z < count
theorem rgD_map (k : Nat) : rgD 0 k = ((List.range k).map fun i : Nat => (i : Int)).map D.int := by
  unfold rgD
  rw [List.map_map]
  refine List.map_congr_left fun i _ => ?_
  show D.int (0 + (i : Int)) = D.int i
  rw [Int.zero_add]
theorem asc_range (k : Nat) (c : Int) (hc : (k : Int) ≤ c) : Asc c ((List.range k).map fun i : Nat => (i : Int)) := by
  refine ⟨List.Pairwise.map _ (fun a b (h : a < b) => by show (a : Int) < b; omega) List.pairwise_lt_range, fun z m => ?_⟩
  obtain ⟨i, hi, rfl⟩ := List.mem_map.mp m
  have := List.mem_range.mp hi
  omega
theorem clo_ints (zs : List Int) : cloL 0 (zs.map D.int) = true := clol_iff.mpr fun x m => by
  obtain ⟨p, _, rfl⟩ := List.mem_map.mp m
  rfl
theorem map_sub {α β : Type} {f : α → β} : ∀ {ys : List β} {xs : List α}, ys.Sublist (xs.map f) → ∃ zs : List α, ys = zs.map f ∧ zs.Sublist xs := fun {ys xs} h => by
  obtain ⟨zs, h1, h2⟩ := List.sublist_map_iff.mp h
  exact ⟨zs, h2, h1⟩
theorem model_e {count : Int} (hR : 0 < R.length) (S : St s n h) (hc0 : 0 < count) (hc1 : count ≤ 100) :
    Gets s n h (A__law_model [rowD R, .ref s, .int count] h) fun d => ∃ zs, d = .tup (zs.map D.int) ∧ Asc count zs := by
  have S0 := S.nn
  obtain ⟨k, e1, k0, k1⟩ := take_e hR S (m := 4) (by decide)
  unfold A__law_model
  by_cases hk : k = 0
  · refine ⟨.tup (rgD 0 count.toNat), n + 1, by omega, ?_, clo_rg _, _, by rw [rgD_map], asc_range _ _ (by omega)⟩
    refine Eq.trans (runB_rt (h' := bump h s (n + 1)) (d := .tup (rgD 0 count.toNat)) rfl ?_) (fin_bump S.hc rfl (clo_rg _))
    refine (seq_set (d := .int k) (h1 := bump h s (n + 1)) (call_e rfl e1)).trans ?_
    refine seq_rtn ?_
    refine (if_t (h1 := bump h s (n + 1)) (by simp [startA, hk])).trans ?_
    exact ret_e (aRg_ok rfl (by omega) (by omega))
  · have S1 := S.up (n' := n + 1) (by omega)
    obtain ⟨ys, h', el, hs, n2, l2, rfl⟩ := lc_filter (s := ⟨rgD 0 count.toNat, []⟩) (g := gNam 4) (tt := aB (aOp dGt (aCall A__law_take (aCons (aVar 0) (aCons (aVar 1) (aCons (aC (.int 3)) aNil)))) (aC (.int 0)))) (te := aVar 4)
      (δ0 := [some (rowD R), some (.ref s), some (.int count), some (.int k), none]) (fun hh => ∃ n', n ≤ n' ∧ hh = bump h s n') (fun _ _ => src_ok) (rgD 0 count.toNat) [] (h := bump h s (n + 1)) ⟨n + 1, by omega, rfl⟩ (by rw [rgD_length]; simp; omega)
      (fun d hd hh ⟨n', l', e'⟩ => by
        subst e'
        have S2 := S.up (n' := n') (by omega)
        obtain ⟨r, e2, r0, r1⟩ := take_e hR S2 (m := 3) (by decide)
        rw [bump_bump] at e2
        exact ⟨_, _, decide (0 < r), bump h s (n' + 1), rfl, b_e (op_e (call_e rfl e2) rfl rfl), ⟨n' + 1, by omega, rfl⟩, rfl⟩)
    rw [List.nil_append] at el
    rw [rgD_map] at hs
    obtain ⟨zs, rfl, hz⟩ := map_sub hs
    have as := asc_range count.toNat count (by omega)
    refine ⟨.tup (zs.map D.int), n2, l2, ?_, clo_ints zs, zs, rfl, as.1.sublist hz, fun z m => as.2 z (hz.subset m)⟩
    refine Eq.trans (runB_rt (h' := bump h s n2) (d := .tup (zs.map D.int)) rfl ?_) (fin_bump S.hc rfl (clo_ints _))
    refine (seq_set (d := .int k) (h1 := bump h s (n + 1)) (call_e rfl e1)).trans ?_
    refine (seq_no (h1 := bump h s (n + 1)) (by simp [startA, hk])).trans ?_
    exact ret_e (cb_e (cons_e (aLc_rg (n := count) rfl (by omega) (by omega) el) rfl) rfl)
/-- an arc -/
theorem take2_e {m m2 n' : Int} {c : List Cell} (hR : 0 < R.length) (S : St s n h) (hn : 0 ≤ n') (hm : 0 < m) (hc : HC c) : ∃ r, A__law_take [rowD R, .ref s, .int m] (bump h s n' ++ c) = .ok (.int r) (bump h s (n' + 1) ++ c) ∧ 0 ≤ r ∧ r < m := by
  have S1 := S.up hn
  have S2 : St s n' (bump h s n' ++ c) := ⟨by rw [List.getElem?_append_left S1.lt]; exact S1.cell, hn, List.all_eq_true.mpr fun x m => by
    rcases List.mem_append.mp m with q | q
    · exact List.all_eq_true.mp S1.hc x q
    · exact List.all_eq_true.mp hc x q⟩
  obtain ⟨r, e, h0, h1⟩ := take_e hR S2 hm
  refine ⟨r, ?_, h0, h1⟩
  rw [e, bump_push (by rw [bump_length]; exact S.lt), bump_bump]
/-- a state's arcs -/
structure ArcsOk (models count : Int) (ps : List P2) : Prop where
  nd : ps.Nodup
  ne : ps ≠ []
  inn : ∀ p ∈ ps, 0 ≤ p.1 ∧ p.1 < models ∧ 0 ≤ p.2 ∧ p.2 < count
def arcD (ps : List P2) : D := .tup (ps.map pD)
theorem clo_arcs (ls : List (List P2)) : cloL 0 (ls.map arcD) = true := clol_iff.mpr fun x m => by
  obtain ⟨p, _, rfl⟩ := List.mem_map.mp m
  exact clo_pD p
theorem set_mid {b l : AH} {x z : Cell} {k : Nat} (hk : k = b.length) : (b ++ x :: l).set k z = b ++ z :: l := by
  subst hk
  simp
theorem get_mid {b l : AH} {x : Cell} {k : Nat} (hk : k = b.length) : (b ++ x :: l)[k]? = some x := by
  subst hk
  simp
theorem get_end {b l : AH} {x : Cell} {k : Nat} (hk : k = b.length + l.length) : (b ++ (l ++ [x]))[k]? = some x := by
  rw [← List.append_assoc]
  exact get_push (by rw [List.length_append]; exact hk)
theorem set_end {b l : AH} {x z : Cell} {k : Nat} (hk : k = b.length + l.length) : (b ++ (l ++ [x])).set k z = b ++ (l ++ [z]) := by
  rw [← List.append_assoc, ← List.append_assoc]
  exact set_push (by rw [List.length_append]; exact hk)
theorem HC.app {b l : AH} (h1 : HC b) (h2 : HC l) : HC (b ++ l) := List.all_eq_true.mpr fun x m => by
  rcases List.mem_append.mp m with q | q
  · exact List.all_eq_true.mp h1 x q
  · exact List.all_eq_true.mp h2 x q
theorem arc_step {models count a6 : D} {mo co n' : Int} {mid : AH} {ps : List P2} {δ : AEnv} {k : Nat} (hR : 0 < R.length) (S : St s n h) (hn : 0 ≤ n') (hm : HC mid) (hmo : 0 < mo) (hco : 0 < co) (hk : k = h.length + mid.length) (q0 : δ[0]? = some (some (rowD R))) (q1 : δ[1]? = some (some (.ref s))) (q2 : δ[2]? = some (some (.int mo))) (q5 : δ[5]? = some (some (.int co))) (q8 : δ[8]? = some (some (.ref k))) (hl : 10 < δ.length) (hps : ps.length < 1000) :
    ∃ p : P2, 0 ≤ p.1 ∧ p.1 < mo ∧ 0 ≤ p.2 ∧ p.2 < co ∧ L1__law_states δ (bump h s n' ++ (mid ++ [.lst (ps.map pD)])) = .nx (δ.set 10 (some (pD p))) (bump h s (n' + 1 + 1) ++ (mid ++ [.lst ((if p ∈ ps then ps else ps ++ [p]).map pD)])) := by
  have hc : HC (mid ++ [.lst (ps.map pD)]) := hm.push (clo_pD ps)
  obtain ⟨a, ea, a0, a1⟩ := take2_e (n' := n') (m2 := 0) hR S hn hmo hc
  obtain ⟨b, eb, b0, b1⟩ := take2_e (n' := n' + 1) (m2 := 0) hR S (by omega) hco hc
  refine ⟨(a, b), a0, a1, b0, b1, ?_⟩
  unfold L1__law_states
  have v (δ : AEnv) (hh : AH) (i : Nat) (d : D) (e : δ[i]? = some (some d)) : aVar i δ hh = .ok d hh := by rw [aVar_e, e]
  refine (seq_set (d := pD (a, b)) (h1 := bump h s (n' + 1 + 1) ++ (mid ++ [.lst (ps.map pD)])) ?_).trans ?_
  · exact tup_e (cons_e (call_e (cons_e (v _ _ _ _ q0) (cons_e (v _ _ _ _ q1) (cons_e (v _ _ _ _ q2) rfl))) ea) (cons_e (call_e (cons_e (v _ _ _ _ q0) (cons_e (v _ _ _ _ q1) (cons_e (v _ _ _ _ q5) rfl))) eb) rfl))
  have hk' : k = (bump h s (n' + 1 + 1)).length + mid.length := by rw [bump_length]; exact hk
  have g := get_end (b := bump h s (n' + 1 + 1)) (l := mid) (x := Cell.lst (ps.map pD)) hk'
  have w10 : (δ.set 10 (some (pD (a, b))))[10]? = some (some (pD (a, b))) := List.getElem?_set_self hl
  have w8 : (δ.set 10 (some (pD (a, b))))[8]? = some (some (.ref k)) := by
    rw [List.getElem?_set_ne (by decide)]
    exact q8
  have hin : dIn true (pD (a, b)) (.ref k) (bump h s (n' + 1 + 1) ++ (mid ++ [.lst (ps.map pD)])) = .ok (.bl (!decide ((a, b) ∈ ps))) (bump h s (n' + 1 + 1) ++ (mid ++ [.lst (ps.map pD)])) := dIn_pairs (neg := true) (by
    show (_[k]?).bind Cell.lst? = _
    rw [g]
    rfl)
  have et := b_e (op_e (v _ _ _ _ w10) (v _ (bump h s (n' + 1 + 1) ++ (mid ++ [.lst (ps.map pD)])) _ _ w8) hin)
  by_cases hp : (a, b) ∈ ps
  · rw [decide_eq_true hp] at et
    rw [if_f et, if_pos hp]
    rfl
  · rw [decide_eq_false hp] at et
    rw [if_t et, if_neg hp]
    have ap := aApp_e (a := aVar 8) (b := aVar 10) (δ := δ.set 10 (some (pD (a, b)))) (n := k) (xs := ps.map pD) (zs := ps.map pD) (d := pD (a, b)) (v _ _ _ _ w8) g (v _ _ _ _ w10) g (by rw [List.length_map]; omega)
    rw [set_end hk'] at ap
    rw [sExp_e, ap, List.map_append]
    rfl
end
end Mr
namespace Mr
open PySem PySem.Spec PyProof.Rows L2 Aq
section
variable {R : List Int} {s : Nat} {n : Int} {h : AH}
/-- the arcs of one state -/
theorem arcs_e {mo co many n' : Int} {mid : AH} {k : Nat} {d3 : D} {d4 d6 d7 : D} {o9 o10 : Option D} (hR : 0 < R.length) (S : St s n h) (hn : 0 ≤ n') (hm : HC mid) (hmo : 0 < mo) (hco : 0 < co) (hk : k = h.length + mid.length) (hm0 : 0 ≤ many) (hm1 : many < 100) :
    ∃ n'' ps o9' o10', n' ≤ n'' ∧ sFor (iRg1 (aCons (aOp dAdd (aC (.int 1)) (aC (.int many))) aNil)) (gNam 9) L1__law_states [some (rowD R), some (.ref s), some (.int mo), some d3, some d4, some (.int co), some d6, some d7, some (.ref k), o9, o10] (bump h s n' ++ (mid ++ [.lst []]))
      = .nx [some (rowD R), some (.ref s), some (.int mo), some d3, some d4, some (.int co), some d6, some d7, some (.ref k), o9', o10'] (bump h s n'' ++ (mid ++ [.lst (ps.map pD)])) ∧ ArcsOk mo co ps ∧ ps.length ≤ (1 + many).toNat := by
  obtain ⟨δ', h', e, n'', ps, o9', o10', l1, rfl, rfl, hl, h1, h2, h3⟩ := for_run (items := rgD 0 (1 + many).toNat) (g := gNam 9) (b := L1__law_states)
    (δ := [some (rowD R), some (.ref s), some (.int mo), some d3, some d4, some (.int co), some d6, some d7, some (.ref k), o9, o10]) (h := bump h s n' ++ (mid ++ [.lst []]))
    (fun i δ hh => ∃ n'' ps o9' o10', n' ≤ n'' ∧ δ = [some (rowD R), some (.ref s), some (.int mo), some d3, some d4, some (.int co), some d6, some d7, some (.ref k), o9', o10'] ∧ hh = bump h s n'' ++ (mid ++ [.lst (ps.map pD)]) ∧ ps.length ≤ i ∧ ps.Nodup ∧ (0 < i → ps ≠ []) ∧ ∀ p ∈ ps, 0 ≤ p.1 ∧ p.1 < mo ∧ 0 ≤ p.2 ∧ p.2 < co)
    ⟨n', [], o9, o10, Int.le_refl _, rfl, rfl, Nat.le_refl _, List.nodup_nil, fun z => absurd z (Nat.lt_irrefl 0), fun p m => (by cases m)⟩ (by
      rintro i d δ hh hd ⟨n2, ps, o9', o10', l2, rfl, rfl, hl, h1, h2, h3⟩
      obtain ⟨hi, rfl⟩ := rgD_get hd
      obtain ⟨p, p1, p2, p3, p4, e⟩ := arc_step (models := .non) (count := .non) (a6 := .non) (mo := mo) (co := co) (n' := n2) (mid := mid) (ps := ps) (k := k) (δ := [some (rowD R), some (.ref s), some (.int mo), some d3, some d4, some (.int co), some d6, some d7, some (.ref k), some (.int i), o10']) hR S (by omega) hm hmo hco hk rfl rfl rfl rfl rfl (by simp) (by omega)
      refine ⟨_, _, _, _, rfl, .inl e, n2 + 1 + 1, (if p ∈ ps then ps else ps ++ [p]), some (.int i), some (pD p), by omega, rfl, rfl, ?_, ?_, fun _ => ?_, ?_⟩
      · split
        · omega
        · rw [List.length_append, List.length_singleton]; omega
      · split
        · exact h1
        · rename_i hp
          rw [List.nodup_append]
          exact ⟨h1, by simp, fun x hx y hy e => hp (by rw [List.mem_singleton.mp hy] at e; rwa [← e])⟩
      · split
        · rename_i hp
          intro z
          rw [z] at hp
          cases hp
        · simp
      · intro q m
        split at m
        · exact h3 q m
        · rcases List.mem_append.mp m with m | m
          · exact h3 q m
          · rw [List.mem_singleton.mp m]
            exact ⟨p1, p2, p3, p4⟩)
  rw [rgD_length] at hl h2
  refine ⟨n'', ps, o9', o10', l1, ?_, ⟨h1, h2 (by omega), h3⟩, by omega⟩
  rw [sFor_rg (n := 1 + many) rfl (by omega) (by omega)]
  exact e
theorem states_e {mo wide many : Int} (hR : 0 < R.length) (S : St s n h) (hmo : 0 < mo) (hw0 : 0 < wide) (hw1 : wide ≤ 100) (hm0 : 0 < many) (hm1 : many < 100) :
    Gets s n h (A__law_states [rowD R, .ref s, .int mo, .int wide, .int many] h) fun d => ∃ ls : List (List P2), d = .tup (ls.map arcD) ∧ 0 < ls.length ∧ ls.length ≤ wide.toNat ∧ ∀ ps ∈ ls, ArcsOk mo ls.length ps ∧ ps.length ≤ many.toNat := by
  have S0 := S.nn
  obtain ⟨c0, e1, c00, c01⟩ := take_e hR S hw0
  unfold A__law_states
  obtain ⟨δ', h', e, n', ls, rest, o7, o8, o9, o10, l1, rfl, rfl, hl, hr, hc, hls⟩ := for_run (items := rgD 0 (1 + c0).toNat) (g := gNam 7) (b := L2__law_states)
    (δ := [some (rowD R), some (.ref s), some (.int mo), some (.int wide), some (.int many), some (.int (1 + c0)), some (.ref h.length), none, none, none, none]) (h := bump h s (n + 1) ++ [.lst []])
    (fun i δ hh => ∃ n' ls rest o7 o8 o9 o10, n ≤ n' ∧ δ = [some (rowD R), some (.ref s), some (.int mo), some (.int wide), some (.int many), some (.int (1 + c0)), some (.ref h.length), o7, o8, o9, o10] ∧ hh = bump h s n' ++ (.lst (ls.map arcD) :: rest) ∧ ls.length = i ∧ rest.length = i ∧ HC rest ∧ ∀ ps ∈ ls, ArcsOk mo (1 + c0) ps ∧ ps.length ≤ many.toNat)
    ⟨n + 1, [], [], none, none, none, none, by omega, rfl, rfl, rfl, rfl, HC.nil, fun p m => (by cases m)⟩ (by
      rintro i d δ hh hd ⟨n', ls, rest, o7, o8, o9, o10, l1, rfl, rfl, hl, hr, hc, hls⟩
      obtain ⟨hi, rfl⟩ := rgD_get hd
      have hc1 : HC ([Cell.lst (ls.map arcD)] ++ rest) := HC.app (b := [Cell.lst (ls.map arcD)]) (by
        show (([Cell.lst (ls.map arcD)] : AH).all (Cell.clo 0)) = true
        rw [List.all_cons]
        exact Bool.and_eq_true_iff.mpr ⟨clo_arcs ls, rfl⟩) hc
      have hc2 : HC ((Cell.lst (ls.map arcD) :: rest) ++ [.lst []]) := HC.push (h := Cell.lst (ls.map arcD) :: rest) hc1 rfl
      obtain ⟨r, er, r0, r1⟩ := take2_e (n' := n') (m2 := 0) hR S (by omega) hm0 hc2
      have hk : h.length + (Cell.lst (ls.map arcD) :: rest).length = (bump h s n' ++ Cell.lst (ls.map arcD) :: rest).length := by rw [List.length_append, bump_length]
      obtain ⟨n2, ps, o9', o10', l2, ef, ha, hp⟩ := arcs_e (mo := mo) (co := 1 + c0) (many := r) (n' := n' + 1) (mid := Cell.lst (ls.map arcD) :: rest) (k := h.length + (Cell.lst (ls.map arcD) :: rest).length) (d3 := .int wide) (d4 := .int many) (d6 := .ref h.length) (d7 := .int i) (o9 := o9) (o10 := o10) hR S (by omega) hc1 hmo (by omega) rfl r0 (by omega)
      refine ⟨_, _, [some (rowD R), some (.ref s), some (.int mo), some (.int wide), some (.int many), some (.int (1 + c0)), some (.ref h.length), some (.int i), some (.ref (h.length + (Cell.lst (ls.map arcD) :: rest).length)), o9', o10'], bump h s n2 ++ (.lst ((ls ++ [ps]).map arcD) :: (rest ++ [.lst (ps.map pD)])), rfl, .inl ?_, n2, ls ++ [ps], rest ++ [.lst (ps.map pD)], _, _, _, _, by omega, rfl, rfl, by simp [hl], by simp [hr], hc.push (c := .lst (ps.map pD)) (clo_pD ps), ?_⟩
      · unfold L2__law_states
        refine (seq_set (d := .ref (h.length + (Cell.lst (ls.map arcD) :: rest).length)) (h1 := bump h s n' ++ ((.lst (ls.map arcD) :: rest) ++ [.lst []])) ?_).trans ?_
        · rw [hk, ← List.append_assoc]
          rfl
        have ef2 : sFor (iRg1 (aCons (aOp dAdd (aC (.int 1)) (aCall A__law_take (aCons (aVar 0) (aCons (aVar 1) (aCons (aVar 4) aNil))))) aNil)) (gNam 9) L1__law_states [some (rowD R), some (.ref s), some (.int mo), some (.int wide), some (.int many), some (.int (1 + c0)), some (.ref h.length), some (.int i), some (.ref (h.length + (Cell.lst (ls.map arcD) :: rest).length)), o9, o10] (bump h s n' ++ ((.lst (ls.map arcD) :: rest) ++ [.lst []]))
            = .nx [some (rowD R), some (.ref s), some (.int mo), some (.int wide), some (.int many), some (.int (1 + c0)), some (.ref h.length), some (.int i), some (.ref (h.length + (Cell.lst (ls.map arcD) :: rest).length)), o9', o10'] (bump h s n2 ++ ((.lst (ls.map arcD) :: rest) ++ [.lst (ps.map pD)])) := by
          rw [sFor_rg (n := 1 + r) (cons_e (op_e rfl (call_e rfl er) rfl) rfl) (by omega) (by omega)]
          rw [sFor_rg (n := 1 + r) rfl (by omega) (by omega)] at ef
          exact ef
        refine (seq_nxt ef2).trans ?_
        have g1 := get_mid (b := bump h s n2) (x := Cell.lst (ls.map arcD)) (l := rest ++ [.lst (ps.map pD)]) (k := h.length) (by rw [bump_length])
        have g2 := get_end (b := bump h s n2) (l := Cell.lst (ls.map arcD) :: rest) (x := Cell.lst (ps.map pD)) (k := h.length + (Cell.lst (ls.map arcD) :: rest).length) (by rw [bump_length])
        have ap := aApp_e (a := aVar 6) (b := aCb dTuple (aCons (aVar 8) aNil)) (δ := [some (rowD R), some (.ref s), some (.int mo), some (.int wide), some (.int many), some (.int (1 + c0)), some (.ref h.length), some (.int i), some (.ref (h.length + (Cell.lst (ls.map arcD) :: rest).length)), o9', o10']) (h := bump h s n2 ++ (.lst (ls.map arcD) :: (rest ++ [.lst (ps.map pD)]))) (n := h.length) (xs := ls.map arcD) (zs := ls.map arcD) (d := arcD ps) rfl g1 (cb_e rfl (dTuple_ref g2)) g1 (by rw [List.length_map]; omega)
        rw [set_mid (by rw [bump_length])] at ap
        rw [sExp_e]
        refine (congrArg (fun r => Mr.R.thn r _ _) ap).trans ?_
        rw [List.map_append]
        rfl
      · intro q m
        rcases List.mem_append.mp m with m | m
        · exact hls q m
        · rw [List.mem_singleton.mp m]
          exact ⟨ha, by omega⟩)
  rw [rgD_length] at hl hr
  have hlc : (ls.length : Int) = 1 + c0 := by omega
  refine ⟨.tup (ls.map arcD), n', l1, ?_, clo_arcs ls, ls, rfl, by omega, by omega, by rw [hlc]; exact hls⟩
  have ef := sFor_rg (t := aCons (aVar 5) aNil) (g := gNam 7) (b := L2__law_states)
    (δ := [some (rowD R), some (.ref s), some (.int mo), some (.int wide), some (.int many), some (.int (1 + c0)), some (.ref h.length), none, none, none, none]) (h := bump h s (n + 1) ++ [.lst []]) (h1 := bump h s (n + 1) ++ [.lst []]) (n := 1 + c0) rfl (by omega) (by omega)
  rw [e] at ef
  have g1 := get_mid (b := bump h s n') (x := Cell.lst (ls.map arcD)) (l := rest) (k := h.length) (by rw [bump_length])
  refine Eq.trans (runB_rt (h' := bump h s n' ++ (.lst (ls.map arcD) :: rest)) (d := .tup (ls.map arcD)) rfl ?_) ?_
  · refine (seq_set (d := .int (1 + c0)) (h1 := bump h s (n + 1)) (op_e rfl (call_e rfl e1) rfl)).trans ?_
    refine (seq_set (d := .ref (bump h s (n + 1)).length) (h1 := bump h s (n + 1) ++ [.lst []]) rfl).trans ?_
    rw [bump_length]
    refine (seq_nxt ef).trans ?_
    exact ret_e (cb_e rfl (dTuple_ref g1))
  · have hk : (bump h s n' ++ (Cell.lst (ls.map arcD) :: rest)).take h.length = bump h s n' := take_push (by rw [bump_length])
    have := fin_val (n := h.length) (h := bump h s n' ++ (.lst (ls.map arcD) :: rest)) (d := .tup (ls.map arcD)) (by rw [hk]; exact S.hc.set _ rfl) (clo_arcs ls)
    rw [hk] at this
    exact this
end
end Mr
namespace Mr
open PySem PySem.Spec PyProof.Rows L2 Aq
/-- a line's data -/
structure LineV where
  jobs : List P2
  pairs : List P2
  kinds : List (List Int)
  states : List (List P2)
  start : Int
  left : Option Int
def kindD (z : List Int) : D := .tup (z.map D.int)
def optD : Option Int → D
  | none => .non
  | some i => .int i
def LineV.d (L : LineV) : D := .tup [.tup (L.jobs.map pD), .tup (L.pairs.map pD), .tup (L.kinds.map kindD), .tup (L.states.map arcD), .int L.start, optD L.left]
structure LineV.Ok (L : LineV) : Prop where
  j0 : 0 < L.jobs.length
  j1 : L.jobs.length ≤ 24
  jb : ∀ p ∈ L.jobs, 0 ≤ p.1 ∧ p.1 ≤ p.2 ∧ p.2 ≤ 10000
  pr : ∃ rk, Ordd L.jobs.length L.pairs rk
  p1 : L.pairs.length ≤ 100
  k0 : 0 < L.kinds.length
  k1 : L.kinds.length ≤ 8
  kd : ∀ z ∈ L.kinds, Asc L.jobs.length z
  s0 : 0 < L.states.length
  s1 : L.states.length ≤ 60
  st : ∀ ps ∈ L.states, ArcsOk L.kinds.length L.states.length ps ∧ ps.length ≤ 40
  t0 : 0 ≤ L.start
  t1 : L.start < L.states.length
  lf : ∀ i, L.left = some i → 0 ≤ i ∧ i ≤ 8
section
variable {R : List Int} {s : Nat} {n : Int} {h : AH}
theorem optD_clo (o : Option Int) : (optD o).clo 0 = true := by cases o <;> rfl
theorem clo_kinds (ls : List (List Int)) : cloL 0 (ls.map kindD) = true := clol_iff.mpr fun x m => by
  obtain ⟨p, _, rfl⟩ := List.mem_map.mp m
  exact clo_ints p
theorem LineV.clo (L : LineV) : L.d.clo 0 = true := by
  show (cloL 0 (L.jobs.map pD) && (cloL 0 (L.pairs.map pD) && (cloL 0 (L.kinds.map kindD) && (cloL 0 (L.states.map arcD) && (true && ((optD L.left).clo 0 && true)))))) = true
  rw [clo_pD, clo_pD, clo_kinds, clo_arcs, optD_clo]
  rfl
/-- a comprehension over range(count), each item by its draw -/
theorem lc_gets {count n' : Int} {te : AEx} {δ0 : AEnv} {P : D → Prop} {i : Nat} (S : St s n h) (hn : n ≤ n') (hc0 : 0 ≤ count) (hc : count ≤ 1000)
    (step : ∀ (j : Nat) n2, n ≤ n2 → St s n2 (bump h s n2) → Gets s n2 (bump h s n2) (te (δ0.set i (some (.int j))) (bump h s n2)) P) :
    ∃ ys n'', n' ≤ n'' ∧ lcL ⟨rgD 0 count.toNat, []⟩ (gNam i) aYes te δ0 (rgD 0 count.toNat) [] (bump h s n') = .ok ys (bump h s n'') ∧ ys.length = count.toNat ∧ ∀ y ∈ ys, y.clo 0 = true ∧ P y := by
  obtain ⟨ys, h', e, hl, n'', l1, rfl, hy⟩ := lc_run (s := ⟨rgD 0 count.toNat, []⟩) (g := gNam i) (te := te) (δ0 := δ0) (fun _ xs hh => ∃ n'', n' ≤ n'' ∧ hh = bump h s n'' ∧ ∀ y ∈ xs, y.clo 0 = true ∧ P y) 0 (rgD 0 count.toNat) [] (h := bump h s n')
    ⟨n', Int.le_refl _, rfl, fun y m => (by cases m)⟩ (by rw [rgD_length]; simp; omega) (fun j d xs hh hd ⟨n2, l2, e2, hy⟩ => by
      subst e2
      obtain ⟨hj, rfl⟩ := rgD_get hd
      have S2 := S.up (n' := n2) (by have := S.nn; omega)
      obtain ⟨y, n3, l3, e3, hc, hp⟩ := step j n2 (by omega) S2
      rw [bump_bump] at e3
      refine ⟨src_ok, _, _, y, bump h s n3, rfl, e3, n3, by omega, rfl, fun z m => ?_⟩
      rcases List.mem_append.mp m with m | m
      · exact hy z m
      · rw [List.mem_singleton.mp m]
        exact ⟨hc, hp⟩) (fun _ _ _ => src_ok)
  rw [rgD_length] at hl
  exact ⟨ys, n'', l1, e, by simpa using hl, hy⟩
theorem choose_map {α : Type} {f : α → D} {Q : α → Prop} : ∀ {ys : List D}, (∀ y ∈ ys, ∃ a, y = f a ∧ Q a) → ∃ as : List α, ys = as.map f ∧ ∀ a ∈ as, Q a
  | [], _ => ⟨[], rfl, fun a m => (by cases m)⟩
  | y :: ys, h => by
    obtain ⟨a, rfl, ha⟩ := h y List.mem_cons_self
    obtain ⟨as, rfl, has⟩ := choose_map fun z m => h z (List.mem_cons_of_mem _ m)
    refine ⟨a :: as, rfl, fun b m => ?_⟩
    rcases List.mem_cons.mp m with rfl | m
    · exact ha
    · exact has b m
theorem line_e {tasks wide many slips : Int} (hR : 0 < R.length) (S : St s n h) (ht0 : 0 < tasks) (ht1 : tasks ≤ 24) (hw0 : 0 < wide) (hw1 : wide ≤ 60) (hm0 : 0 < many) (hm1 : many ≤ 40) (hs0 : 0 ≤ slips) (hs1 : slips ≤ 8) :
    Gets s n h (A__law_line [rowD R, .ref s, .int tasks, .int wide, .int many, .int slips] h) fun d => ∃ L : LineV, d = L.d ∧ L.Ok ∧ L.kinds.length ≤ 3 := by
  have S0 := S.nn
  have B : ∀ n', n ≤ n' → St s n' (bump h s n') := fun n' z => S.up (by omega)
  have hstyle : ∀ a : Int, 0 ≤ a → a < 4 → ∃ k : Int, dIx (.vl [.int 0, .int 0, .int 1, .int 2]) (.int a) = (fun hh => .ok (.int k) hh) := by
    intro a h0 h1
    have : a = 0 ∨ a = 1 ∨ a = 2 ∨ a = 3 := by omega
    rcases this with rfl | rfl | rfl | rfl
    · exact ⟨0, funext fun hh => dIx_vl (by decide) rfl⟩
    · exact ⟨0, funext fun hh => dIx_vl (by decide) rfl⟩
    · exact ⟨1, funext fun hh => dIx_vl (by decide) rfl⟩
    · exact ⟨2, funext fun hh => dIx_vl (by decide) rfl⟩
  obtain ⟨a, e1, a0, a1⟩ := take_e hR S (m := 4) (by decide)
  obtain ⟨k, ek⟩ := hstyle a a0 a1
  obtain ⟨c, e2, c0, c1⟩ := take_e hR (B (n + 1) (by omega)) ht0
  rw [bump_bump] at e2
  -- the jobs
  obtain ⟨ys, n3, l3, e3, hy, hys⟩ := lc_gets (count := 1 + c) (n' := n + 1 + 1) (te := aCall A__law_task (aCons (aVar 0) (aCons (aVar 1) (aCons (aVar 6) aNil)))) (i := 14) (P := isJob)
    (δ0 := [some (rowD R), some (.ref s), some (.int tasks), some (.int wide), some (.int many), some (.int slips), some (.int k), some (.int (1 + c)), none, none, none, none, none, none, none]) S (by omega) (by omega) (by omega) (fun j n2 l2 S2 => by
      have := task_e (k := k) hR S2
      exact this)
  obtain ⟨js, rfl, hjs⟩ := choose_map (f := pD) (Q := fun p => 0 ≤ p.1 ∧ p.1 ≤ p.2 ∧ p.2 ≤ 10000) (ys := ys) (fun y m => by
    obtain ⟨_, u, v, rfl, q⟩ := hys y m
    exact ⟨(u, v), rfl, q⟩)
  rw [List.length_map] at hy
  have hjl : (js.length : Int) = 1 + c := by omega
  -- the pairs
  obtain ⟨b, e4, b0, b1⟩ := take_e hR (B n3 (by omega)) (m := 1 + c + 1) (by omega)
  rw [bump_bump] at e4
  obtain ⟨_, n5, l5, e5, _, ps, rk, rfl, hpl, ho⟩ := pairs_e (count := 1 + c) (many := b) hR (B (n3 + 1) (by omega)) (by omega) (by omega) (by omega) (by omega)
  rw [bump_bump] at e5
  -- the models
  obtain ⟨f, e6, f0, f1⟩ := take_e hR (B n5 (by omega)) (m := 3) (by decide)
  rw [bump_bump] at e6
  obtain ⟨zs, n7, l7, e7, hz, hzs⟩ := lc_gets (count := 1 + f) (n' := n5 + 1) (te := aCall A__law_model (aCons (aVar 0) (aCons (aVar 1) (aCons (aVar 7) aNil)))) (i := 14) (P := fun d => ∃ zs, d = .tup (zs.map D.int) ∧ Asc (1 + c) zs)
    (δ0 := [some (rowD R), some (.ref s), some (.int tasks), some (.int wide), some (.int many), some (.int slips), some (.int k), some (.int (1 + c)), some (.tup (js.map pD)), some (.tup (ps.map pD)), none, none, none, none, none]) S (by omega) (by omega) (by omega) (fun j n2 l2 S2 => model_e (count := 1 + c) hR S2 (by omega) (by omega))
  obtain ⟨ks, rfl, hks⟩ := choose_map (f := kindD) (Q := fun z => Asc (1 + c) z) (ys := zs) (fun y m => by
    obtain ⟨_, u, rfl, q⟩ := hzs y m
    exact ⟨u, rfl, q⟩)
  rw [List.length_map] at hz
  -- the states
  obtain ⟨_, n8, l8, e8, _, ls, rfl, hs2, hs3, hls⟩ := states_e (mo := ks.length) (wide := wide) (many := many) hR (B n7 (by omega)) (by omega) hw0 (by omega) hm0 (by omega)
  rw [bump_bump] at e8
  obtain ⟨st, e9, st0, st1⟩ := take_e hR (B n8 (by omega)) (m := ls.length) (by omega)
  rw [bump_bump] at e9
  obtain ⟨q, e10, q0, q1⟩ := take_e hR (B (n8 + 1) (by omega)) (m := 5) (by decide)
  rw [bump_bump] at e10
  have hleft : ∃ (o : Option Int) (n9 : Int), n8 ≤ n9 ∧ (∀ i, o = some i → 0 ≤ i ∧ i ≤ 8) ∧ (aIf (aB (aOp (dEq false) (aCall A__law_take (aCons (aVar 0) (aCons (aVar 1) (aCons (aC (.int 5)) aNil)))) (aC (.int 0)))) (aC .non) (aCall A__law_take (aCons (aVar 0) (aCons (aVar 1) (aCons (aOp dAdd (aVar 5) (aC (.int 1))) aNil)))))
      [some (rowD R), some (.ref s), some (.int tasks), some (.int wide), some (.int many), some (.int slips), some (.int k), some (.int (1 + c)), some (.tup (js.map pD)), some (.tup (ps.map pD)), some (.tup (ks.map kindD)), some (.tup (ls.map arcD)), some (.int st), none, none] (bump h s (n8 + 1)) = .ok (optD o) (bump h s n9) := by
    by_cases hq : q = 0
    · refine ⟨none, n8 + 1 + 1, by omega, fun i z => (by cases z), ?_⟩
      exact aif_t (b_e (k := true) (op_e (call_e rfl e10) rfl (by simp [hq])))
    · obtain ⟨g, e11, g0, g1⟩ := take_e hR (B (n8 + 1 + 1) (by omega)) (m := slips + 1) (by omega)
      rw [bump_bump] at e11
      refine ⟨some g, n8 + 1 + 1 + 1, by omega, fun i z => (by cases z; omega), ?_⟩
      exact (aif_f (b_e (k := false) (op_e (call_e rfl e10) rfl (by simp [hq])))).trans (call_e rfl e11)
  obtain ⟨o, n9, l9, ho9, e11⟩ := hleft
  refine ⟨(LineV.mk js ps ks ls st o).d, n9, by omega, ?_, LineV.clo _, ⟨js, ps, ks, ls, st, o⟩, rfl, ?_, (by show ks.length ≤ 3; omega)⟩
  · unfold A__law_line
    refine Eq.trans (runB_rt (h' := bump h s n9) (d := (LineV.mk js ps ks ls st o).d) rfl ?_) (fin_bump S.hc rfl (LineV.clo _))
    refine (seq_set (d := .int k) (h1 := bump h s (n + 1)) (op_e rfl (call_e rfl e1) (by rw [ek]))).trans ?_
    refine (seq_set (d := .int (1 + c)) (h1 := bump h s (n + 1 + 1)) (op_e rfl (call_e rfl e2) rfl)).trans ?_
    refine (seq_set (d := .tup (js.map pD)) (h1 := bump h s n3) (cb_e (cons_e (aLc_rg (n := 1 + c) rfl (by omega) (by omega) e3) rfl) rfl)).trans ?_
    refine (seq_set (d := .tup (ps.map pD)) (h1 := bump h s n5) (call_e (cons_e rfl (cons_e rfl (cons_e rfl (cons_e (call_e rfl e4) rfl)))) e5)).trans ?_
    refine (seq_set (d := .tup (ks.map kindD)) (h1 := bump h s n7) (cb_e (cons_e (aLc_rg (n := 1 + f) (cons_e (op_e rfl (call_e rfl e6) rfl) rfl) (by omega) (by omega) e7) rfl) rfl)).trans ?_
    refine (seq_set (d := .tup (ls.map arcD)) (h1 := bump h s n8) (call_e (cons_e rfl (cons_e rfl (cons_e (cb_e rfl (by rw [dLen_tup, List.length_map])) rfl))) e8)).trans ?_
    refine (seq_set (d := .int st) (h1 := bump h s (n8 + 1)) (call_e (cons_e rfl (cons_e rfl (cons_e (cb_e rfl (by rw [dLen_tup, List.length_map])) rfl))) e9)).trans ?_
    refine (seq_set (d := optD o) (h1 := bump h s n9) e11).trans ?_
    exact ret_e rfl
  · have hjl' : ((LineV.mk js ps ks ls st o).jobs.length : Int) = 1 + c := hjl
    exact { j0 := by show 0 < js.length; omega, j1 := by show js.length ≤ 24; omega, jb := hjs, pr := ⟨rk, by rw [hjl']; exact ho⟩, p1 := by show ps.length ≤ 100; omega, k0 := by show 0 < ks.length; omega, k1 := by show ks.length ≤ 8; omega, kd := by rw [hjl']; exact hks, s0 := hs2, s1 := by show ls.length ≤ 60; omega, st := fun p m => ⟨(hls p m).1, (by have := (hls p m).2; omega)⟩, t0 := st0, t1 := st1, lf := ho9 }
theorem case_e (hR : 0 < R.length) (S : St s n h) : Gets s n h (A__law_case [rowD R, .ref s] h) fun d => ∃ L : LineV, d = L.d ∧ L.Ok ∧ L.kinds.length ≤ 3 := by
  have S0 := S.nn
  obtain ⟨a, e1, a0, a1⟩ := take_e hR S (m := 4) (by decide)
  have S1 := S.up (n' := n + 1) (by omega)
  unfold A__law_case
  have hd : ∀ {d : D} {n2 : Int}, d.clo 0 = true → fin false h.length d (bump h s n2) = .ok d (bump h s n2) := fun hd => fin_bump S.hc rfl hd
  have cond : ∀ (j : Int) (k : Bool), decide (a = j) = k → aB (aOp (dEq false) (aVar 2) (aC (.int j))) [some (rowD R), some (.ref s), some (.int a)] (bump h s (n + 1)) = .ok k (bump h s (n + 1)) := fun j k e => b_e (op_e rfl rfl (by rw [dEq_i, ← e]; rfl))
  have e0 : sSet 2 (aCall A__law_take (aCons (aVar 0) (aCons (aVar 1) (aCons (aC (.int 4)) aNil)))) (startA 3 [rowD R, .ref s]) h = .nx [some (rowD R), some (.ref s), some (.int a)] (bump h s (n + 1)) := by
    rw [sSet_e, call_e rfl e1]
    rfl
  by_cases h0 : a = 0
  · obtain ⟨d, n2, l2, e2, hc, hp⟩ := line_e (tasks := 6) (wide := 4) (many := 3) (slips := 3) hR S1 (by decide) (by decide) (by decide) (by decide) (by decide) (by decide) (by decide) (by decide)
    rw [bump_bump] at e2
    refine ⟨d, n2, by omega, Eq.trans (runB_rt (h' := bump h s n2) (d := d) rfl ?_) (hd hc), hc, hp⟩
    refine (seq_nxt e0).trans ?_
    refine seq_rtn ((if_t (cond 0 true (by simp [h0]))).trans ?_)
    exact ret_e (call_e rfl e2)
  by_cases h1 : a = 1
  · obtain ⟨d, n2, l2, e2, hc, hp⟩ := line_e (tasks := 4) (wide := 3) (many := 2) (slips := 4) hR S1 (by decide) (by decide) (by decide) (by decide) (by decide) (by decide) (by decide) (by decide)
    rw [bump_bump] at e2
    refine ⟨d, n2, by omega, Eq.trans (runB_rt (h' := bump h s n2) (d := d) rfl ?_) (hd hc), hc, hp⟩
    refine (seq_nxt e0).trans ?_
    refine (seq_no (cond 0 false (by simp [h0]))).trans ?_
    refine seq_rtn ((if_t (cond 1 true (by simp [h1]))).trans ?_)
    exact ret_e (call_e rfl e2)
  by_cases h2 : a = 2
  · obtain ⟨d, n2, l2, e2, hc, hp⟩ := line_e (tasks := 3) (wide := 2) (many := 3) (slips := 2) hR S1 (by decide) (by decide) (by decide) (by decide) (by decide) (by decide) (by decide) (by decide)
    rw [bump_bump] at e2
    refine ⟨d, n2, by omega, Eq.trans (runB_rt (h' := bump h s n2) (d := d) rfl ?_) (hd hc), hc, hp⟩
    refine (seq_nxt e0).trans ?_
    refine (seq_no (cond 0 false (by simp [h0]))).trans ?_
    refine (seq_no (cond 1 false (by simp [h1]))).trans ?_
    refine seq_rtn ((if_t (cond 2 true (by simp [h2]))).trans ?_)
    exact ret_e (call_e rfl e2)
  · obtain ⟨d, n2, l2, e2, hc, hp⟩ := line_e (tasks := 12) (wide := 3) (many := 2) (slips := 8) hR S1 (by decide) (by decide) (by decide) (by decide) (by decide) (by decide) (by decide) (by decide)
    rw [bump_bump] at e2
    refine ⟨d, n2, by omega, Eq.trans (runB_rt (h' := bump h s n2) (d := d) rfl ?_) (hd hc), hc, hp⟩
    refine (seq_nxt e0).trans ?_
    refine (seq_no (cond 0 false (by simp [h0]))).trans ?_
    refine (seq_no (cond 1 false (by simp [h1]))).trans ?_
    refine (seq_no (cond 2 false (by simp [h2]))).trans ?_
    exact ret_e (call_e rfl e2)
end
end Mr
/-! the same data, its tuples turned into lists here and there; what the program asks of values -/
namespace Mr
open PySem PySem.Spec PyProof.Rows L2 Aq
mutual
def lo (b : Bool) : D → D
  | .tup ds => if b then .vl (loL (!b) ds) else .tup (loL (!b) ds)
  | d => d
def loL (b : Bool) : List D → List D
  | [] => []
  | d :: ds => lo b d :: loL b ds
end
mutual
def dep : D → Nat
  | .tup ds => depL ds + 1
  | _ => 0
def depL : List D → Nat
  | [] => 0
  | d :: ds => max (dep d) (depL ds)
end
mutual
def pln : D → Bool
  | .tup ds => decide (ds.length ≤ 1000) && plnL ds
  | .int _ => true
  | .non => true
  | _ => false
def plnL : List D → Bool
  | [] => true
  | d :: ds => pln d && plnL ds
end
theorem loL_map {b : Bool} : ∀ ds, loL b ds = ds.map (lo b)
  | [] => rfl
  | d :: ds => by
    show lo b d :: loL b ds = _
    rw [loL_map ds]
    rfl
theorem dep_mem : ∀ {ds : List D} {d : D}, d ∈ ds → dep d ≤ depL ds
  | x :: ds, d, m => by
    show dep d ≤ max (dep x) (depL ds)
    rcases List.mem_cons.mp m with rfl | m
    · omega
    · have := dep_mem m
      omega
theorem pln_mem : ∀ {ds : List D} {d : D}, d ∈ ds → plnL ds = true → pln d = true
  | x :: ds, d, m, h => by
    obtain ⟨h1, h2⟩ := Bool.and_eq_true_iff.mp (show (pln x && plnL ds) = true from h)
    rcases List.mem_cons.mp m with rfl | m
    · exact h1
    · exact pln_mem m h2
mutual
theorem lo_clo {b : Bool} : ∀ {d : D}, pln d = true → (lo b d).clo 0 = true
  | .tup ds, h => by
    show D.clo 0 (if b then .vl (loL (!b) ds) else .tup (loL (!b) ds)) = true
    have := lol_clo (b := !b) (ds := ds) (Bool.and_eq_true_iff.mp (show (decide (ds.length ≤ 1000) && plnL ds) = true from h)).2
    split <;> exact this
  | .int _, _ => rfl
  | .non, _ => rfl
theorem lol_clo {b : Bool} : ∀ {ds : List D}, plnL ds = true → cloL 0 (loL b ds) = true
  | [], _ => rfl
  | d :: ds, h => by
    obtain ⟨h1, h2⟩ := Bool.and_eq_true_iff.mp (show (pln d && plnL ds) = true from h)
    exact Bool.and_eq_true_iff.mpr ⟨lo_clo h1, lol_clo h2⟩
end
theorem isi_e {T S : String} {a : AEx} {δ : AEnv} {h h1 : AH} {x : D} {k : Bool} (e : a δ h = .ok x h1) (ht : tyD h1 x = some S) (hk : kitB S T = some k) : aIsi T a δ h = .ok (.bl k) h1 := by
  unfold aIsi
  rw [e, R.bind_ok, ht]
  show (match kitB S T with | some b => R.ok (D.bl b) h1 | none => .bad) = _
  rw [hk]
theorem isi2_e {T T' S : String} {a : AEx} {δ : AEnv} {h h1 : AH} {x : D} {k k' : Bool} (e : a δ h = .ok x h1) (ht : tyD h1 x = some S) (hk : kitB S T = some k) (hk' : kitB S T' = some k') : aIsi2 T T' a δ h = .ok (.bl (k || k')) h1 := by
  unfold aIsi2
  rw [e, R.bind_ok, ht]
  show (match kitB S T, kitB S T' with | some b, some c => R.ok (D.bl (b || c)) h1 | _, _ => .bad) = _
  rw [hk, hk']
theorem kt_tup : kitB "tuple" "tuple" = some true := by kernel_rfl
theorem kt_int : kitB "int" "tuple" = some false := by kernel_rfl
theorem kt_non : kitB "NoneType" "tuple" = some false := by kernel_rfl
theorem fin_same {h : AH} {d : D} (hc : HC h) (hd : d.clo 0 = true) : fin false h.length d h = .ok d h := by
  have := fin_val (n := h.length) (d := d) (h := h) (hc.take _) hd
  rwa [List.take_length] at this
theorem loose_e {h : AH} (hc : HC h) : ∀ (n : Nat) (d : D) (t : Int), dep d < n → pln d = true → A__law_loose n [d, .int t] h = .ok (lo (decide (t % 2 = 0)) d) h
  | 0, d, t, hd, _ => absurd hd (Nat.not_lt_zero _)
  | n + 1, d, t, hd, hp => by
    show B__law_loose (A__law_loose n) [d, .int t] h = _
    unfold B__law_loose
    have leaf : ∀ S : String, tyD h d = some S → kitB S "tuple" = some false → d.clo 0 = true → lo (decide (t % 2 = 0)) d = d → runB false 2 4 (sSeq (sIf (aB (aIsi "tuple" (aVar 0)))
        (sSeq (sSet 2 (aLc (iSeqA (aVar 0)) (gNam 3) aYes (aCall (A__law_loose n) (aCons (aVar 3) (aCons (aOp dAdd (aVar 1) (aC (.int 1))) aNil))) [3]))
        (sRet (aIf (aB (aOp (dEq false) (aOp dMod (aCb dInt (aCons (aVar 1) aNil)) (aC (.int 2))) (aC (.int 0)))) (aVar 2) (aCb dTuple (aCons (aVar 2) aNil))))) sNil) (sRet (aVar 0))) [d, .int t] h = .ok (lo (decide (t % 2 = 0)) d) h := by
      intro S h1 h2 h3 h4
      rw [h4]
      refine Eq.trans (runB_rt (h' := h) (d := d) rfl ?_) (fin_same hc h3)
      refine (seq_no (b_e (isi_e rfl h1 h2))).trans ?_
      rfl
    cases d with
    | int i => exact leaf "int" rfl kt_int rfl rfl
    | non => exact leaf "NoneType" rfl kt_non rfl rfl
    | tup ds =>
      obtain ⟨hs, hp2⟩ := Bool.and_eq_true_iff.mp (show (decide (ds.length ≤ 1000) && plnL ds) = true from hp)
      have hs' := of_decide_eq_true hs
      have hdd : depL ds < n := by
        have : depL ds + 1 < n + 1 := hd
        omega
      have hb : decide ((t + 1) % 2 = 0) = !decide (t % 2 = 0) := by
        by_cases h0 : t % 2 = 0
        · rw [decide_eq_true h0, decide_eq_false (by omega)]
          rfl
        · rw [decide_eq_false h0, decide_eq_true (by omega)]
          rfl
      obtain ⟨ys, h', e, hl, eh, hy⟩ := lc_run (s := ⟨ds, []⟩) (g := gNam 3) (te := aCall (A__law_loose n) (aCons (aVar 3) (aCons (aOp dAdd (aVar 1) (aC (.int 1))) aNil))) (δ0 := [some (.tup ds), some (.int t), none, none])
        (fun i xs hh => hh = h ∧ xs = (ds.take i).map (lo (!decide (t % 2 = 0)))) 0 ds [] (h := h) ⟨rfl, rfl⟩ (by simp; omega) (fun i x xs hh hx ⟨e1, e2⟩ => by
          have e1' := e1.symm
          subst e1'
          have hm : x ∈ ds := List.mem_of_getElem? hx
          have := loose_e hc n x (t + 1) (by have := dep_mem hm; omega) (pln_mem hm hp2)
          rw [hb] at this
          refine ⟨src_ok, _, _, lo (!decide (t % 2 = 0)) x, h, rfl, call_e rfl this, rfl, ?_⟩
          rw [e2, Nat.zero_add, List.take_add_one, hx, List.map_append]
          rfl) (fun _ _ _ => src_ok)
      rw [eh] at e
      rw [Nat.zero_add, List.take_length] at hy
      rw [← loL_map] at hy
      subst hy
      have hcl : cloL 0 (loL (!decide (t % 2 = 0)) ds) = true := lol_clo hp2
      have hres : lo (decide (t % 2 = 0)) (.tup ds) = if decide (t % 2 = 0) then .vl (loL (!decide (t % 2 = 0)) ds) else .tup (loL (!decide (t % 2 = 0)) ds) := rfl
      refine Eq.trans (runB_rt (h' := h) (d := lo (decide (t % 2 = 0)) (.tup ds)) rfl ?_) (fin_same hc (lo_clo hp))
      refine seq_rtn ((if_t (b_e (isi_e (T := "tuple") (S := "tuple") rfl rfl kt_tup))).trans ?_)
      refine (seq_set (aLc_seq (d := .tup ds) rfl (.inl rfl) e)).trans ?_
      refine ret_e ?_
      rw [hres]
      by_cases h0 : t % 2 = 0
      · refine (aif_t (b_e (op_e (op_e (cb_e rfl rfl) rfl (dMod_i (by decide))) rfl (by rw [dEq_i, decide_eq_true h0]; rfl)))).trans ?_
        rw [if_pos (decide_eq_true h0)]
        rfl
      · refine (aif_f (b_e (op_e (op_e (cb_e rfl rfl) rfl (dMod_i (by decide))) rfl (by rw [dEq_i, decide_eq_false h0]; rfl)))).trans ?_
        rw [if_neg (by rw [decide_eq_false h0]; decide)]
        rfl
    | _ => cases hp
end Mr
/-! the program's checks, of values that are as told -/
namespace Mr
open PySem PySem.Spec PyProof.Rows L2 Aq
/-- a list or tuple of xs -/
def SQ (d : D) (xs : List D) : Prop := d = .tup xs ∨ d = .vl xs
theorem SQ.seq {d : D} {xs : List D} (q : SQ d xs) (h : AH) : seqOf h d = some xs := by rcases q with rfl | rfl <;> rfl
theorem SQ.src {d : D} {xs : List D} (q : SQ d xs) (h : AH) : srcOf h d = some ⟨xs, []⟩ := by rcases q with rfl | rfl <;> rfl
theorem SQ.len {d : D} {xs : List D} (q : SQ d xs) (h : AH) : dLen [d] h = .ok (.int xs.length) h := by rcases q with rfl | rfl <;> rfl
theorem SQ.tup {d : D} {xs : List D} (q : SQ d xs) (h : AH) : dTuple [d] h = .ok (.tup xs) h := by rcases q with rfl | rfl <;> rfl
theorem SQ.ty {d : D} {xs : List D} (q : SQ d xs) (h : AH) : ∃ S, tyD h d = some S ∧ ∃ k k', kitB S "list" = some k ∧ kitB S "tuple" = some k' ∧ (k || k') = true := by
  rcases q with rfl | rfl
  · exact ⟨"tuple", rfl, false, true, by kernel_rfl, by kernel_rfl, rfl⟩
  · exact ⟨"list", rfl, true, false, by kernel_rfl, by kernel_rfl, rfl⟩
section
variable {h : AH} {d : D} {xs : List D} {δ δ' : AEnv}
theorem is_sequence_t (hc : HC h) (q : SQ d xs) : A_is_sequence [d] h = .ok (.bl true) h := by
  obtain ⟨S, h1, k, k', h2, h3, h4⟩ := q.ty h
  unfold A_is_sequence
  refine Eq.trans (runB_rt (h' := h) (d := .bl true) rfl (ret_e ?_)) (fin_same hc rfl)
  rw [isi2_e rfl h1 h2 h3, h4]
theorem andV_t {a b : AEx} {h1 : AH} {r : R D} (e : a δ h = .ok (.bl true) h1) (k : b δ h1 = r) : aAndV a b δ h = r := by
  rw [aAndV_e, e]
  exact k
theorem andV_f {a b : AEx} {h1 : AH} (e : a δ h = .ok (.bl false) h1) : aAndV a b δ h = .ok (.bl false) h1 := by
  rw [aAndV_e, e]
  rfl
theorem orV_f {a b : AEx} {h1 : AH} {r : R D} (e : a δ h = .ok (.bl false) h1) (k : b δ h1 = r) : aOrV a b δ h = r := by
  rw [aOrV_e, e]
  exact k
theorem orV_t {a b : AEx} {h1 : AH} (e : a δ h = .ok (.bl true) h1) : aOrV a b δ h = .ok (.bl true) h1 := by
  rw [aOrV_e, e]
  rfl
theorem not_e {s : ATs} {h1 : AH} {k k' : Bool} (e : s δ h = .ok k h1) (hk : k' = !k) : aNot s δ h = .ok k' h1 := by
  rw [aNot_e, e, hk]
  rfl
theorem or_f {s u : ATs} {h1 : AH} {r : R Bool} (e : s δ h = .ok false h1) (k : u δ h1 = r) : aOr s u δ h = r := by
  rw [aOr_e, e]
  exact k
theorem or_t {s u : ATs} {h1 : AH} (e : s δ h = .ok true h1) : aOr s u δ h = .ok true h1 := by
  rw [aOr_e, e]
  rfl
theorem chain_le {a b c : AEx} {x y z : Int} (ha : a δ h = .ok (.int x) h) (hb : b δ h = .ok (.int y) h) (hc : c δ h = .ok (.int z) h) : aChain dLe dLe a b c δ h = .ok (.bl (decide (x ≤ y ∧ y ≤ z))) h := by
  rw [aChain_e, ha, R.bind_ok, hb, R.bind_ok, dLe_i, boolR_ok, R.bind_ok]
  by_cases h1 : x ≤ y
  · rw [if_pos (decide_eq_true h1), hc, R.bind_ok, dLe_i]
    by_cases h2 : y ≤ z <;> simp [h1, h2]
  · rw [if_neg (by rw [decide_eq_false h1]; decide)]
    simp [h1]
theorem has_length_t {a b : Int} (hc : HC h) (q : SQ d xs) : A_has_length [d, .int a, .int b] h = .ok (.bl (decide (a ≤ xs.length ∧ (xs.length : Int) ≤ b))) h := by
  unfold A_has_length
  refine Eq.trans (runB_rt (h' := h) (d := .bl _) rfl (ret_e ?_)) (fin_same hc rfl)
  exact andV_t (call_e rfl (is_sequence_t hc q)) (chain_le rfl (cb_e rfl (q.len h)) rfl)
theorem is_integer_t {i : Int} (hc : HC h) : A_is_integer [.int i] h = .ok (.bl true) h := by
  unfold A_is_integer
  refine Eq.trans (runB_rt (h' := h) (d := .bl true) rfl (ret_e ?_)) (fin_same hc rfl)
  refine andV_t (isi_e (S := "int") rfl rfl (by kernel_rfl)) ?_
  rw [aNotV_e, isi_e (S := "int") (k := false) rfl rfl (by kernel_rfl)]
  rfl
theorem is_within_t {i a b : Int} (hc : HC h) : A_is_within [.int i, .int a, .int b] h = .ok (.bl (decide (a ≤ i ∧ i ≤ b))) h := by
  unfold A_is_within
  refine Eq.trans (runB_rt (h' := h) (d := .bl _) rfl (ret_e ?_)) (fin_same hc rfl)
  exact andV_t (call_e rfl (is_integer_t hc)) (chain_le rfl rfl rfl)
theorem gUn_q {n : Nat} {r : ATgs} (q : SQ d xs) (hl : xs.length = n) : gUn n r d δ h = r xs δ h := by
  rcases q with rfl | rfl
  · exact gUn_tup hl
  · exact gUn_vl hl
/-- what stands for a pair of numbers -/
def PQ (d : D) (p : P2) : Prop := SQ d [.int p.1, .int p.2]
theorem is_task_t {p : P2} (hc : HC h) (q : PQ d p) (h0 : 0 ≤ p.1 ∧ p.1 ≤ p.2 ∧ p.2 ≤ 10000) : A_is_task [d] h = .ok (.bl true) h := by
  unfold A_is_task
  refine Eq.trans (runB_rt (h' := h) (d := .bl true) rfl ?_) (fin_same hc rfl)
  refine (seq_no (not_e (k := true) (b_e (call_e rfl (has_length_t hc q))) rfl)).trans ?_
  have e : sAsg (aVar 0) (gUn 2 (gConsA (gNam 1) (gConsA (gNam 2) gNilA))) (startA 3 [d]) h = .nx [some d, some (.int p.1), some (.int p.2)] h := by
    rw [sAsg_e]
    show (gUn 2 _ d _ h).toS = _
    rw [gUn_q (n := 2) q rfl]
    rfl
  refine (seq_nxt e).trans (ret_e ?_)
  refine andV_t (call_e rfl (by rw [is_within_t hc, decide_eq_true ⟨by omega, by omega⟩])) (call_e rfl (by rw [is_within_t hc, decide_eq_true ⟨by omega, by omega⟩]))
/-- a loop whose body only checks -/
theorem for_chk {s : Src} {g : ATg} {b : ASt} {items : List D} (E : AEnv → Prop) (hs : s.at_ = []) (h0 : E δ) (step : ∀ (i : Nat) (d : D) (δ : AEnv), items[i]? = some d → E δ → ∃ δ1 δ2, g d δ h = .ok δ1 h ∧ b δ1 h = .nx δ2 h ∧ E δ2) : ∃ δ', forL s g b items δ h = .nx δ' h ∧ E δ' := by
  obtain ⟨its, at_⟩ := s
  cases hs
  obtain ⟨δ', h', e, e2, hI⟩ := for_inv (s := ⟨its, []⟩) (g := g) (b := b) (fun _ δ hh => hh = h ∧ E δ) [] items (δ := δ) (h := h) ⟨rfl, h0⟩ (fun i d δ hh hd ⟨e1, hE⟩ => by
    rw [e1]
    obtain ⟨δ1, δ2, q1, q2, q3⟩ := step i d δ hd hE
    exact ⟨src_ok, δ1, h, δ2, h, q1, .inl q2, rfl, q3⟩) (fun _ _ _ => src_ok)
  rw [e2] at e
  exact ⟨δ', e, hI⟩
theorem lc_map {ds : List D} {te : AEx} {i : Nat} {f : D → D} (hl : ds.length ≤ 1000000) (step : ∀ d ∈ ds, te (δ.set i (some d)) h = .ok (f d) h) : lcL ⟨ds, []⟩ (gNam i) aYes te δ ds [] h = .ok (ds.map f) h := by
  obtain ⟨ys, h', e, _, e1, e2⟩ := lc_run (s := ⟨ds, []⟩) (g := gNam i) (te := te) (δ0 := δ) (fun j xs hh => hh = h ∧ xs = (ds.take j).map f) 0 ds [] (h := h) ⟨rfl, rfl⟩ (by simp; omega) (fun j x xs hh hx ⟨e1, e2⟩ => by
    have e1' := e1.symm
    subst e1'
    refine ⟨src_ok, _, _, f x, h, rfl, step x (List.mem_of_getElem? hx), rfl, ?_⟩
    rw [e2, Nat.zero_add, List.take_add_one, hx, List.map_append]
    rfl) (fun _ _ _ => src_ok)
  rw [e, e1, e2, Nat.zero_add, List.take_length]
theorem sFor_en {t : AAs} {g : ATg} {b : ASt} {h1 : AH} (e : t δ h = .ok [d] h1) (q : SQ d xs) : sFor (iEnA t) g b δ h = forL ⟨enD xs, []⟩ g b (enD xs) δ h1 := by
  unfold sFor iEnA
  rw [e]
  show ((match srcOf h1 d with
    | some s => R.ok (Src.mk (enD s.items) s.at_) h1
    | none => .bad).thn δ fun s h1 => forL s g b s.items δ h1) = _
  have := q.src h1
  rw [this] <;> rfl
theorem sFor_q {a : AEx} {g : ATg} {b : ASt} {h1 : AH} (e : a δ h = .ok d h1) (q : SQ d xs) : sFor (iSeqA a) g b δ h = forL ⟨xs, []⟩ g b xs δ h1 := by
  rcases q with rfl | rfl
  · exact sFor_tup e
  · exact sFor_vl e
theorem checked_tasks_t {js : List P2} {q : P2 → D} (hc : HC h) (hd : SQ d (js.map q)) (hq : ∀ p ∈ js, PQ (q p) p) (j0 : 0 < js.length) (j1 : js.length ≤ 24) (jb : ∀ p ∈ js, 0 ≤ p.1 ∧ p.1 ≤ p.2 ∧ p.2 ≤ 10000) : A_checked_tasks [d] h = .ok (.tup (js.map pD)) h := by
  unfold A_checked_tasks
  refine Eq.trans (runB_rt (h' := h) (d := .tup (js.map pD)) rfl ?_) (fin_same hc (clo_pD js))
  refine (seq_no (or_f (not_e (k := true) (b_e (call_e rfl (is_sequence_t hc hd))) rfl) (b_e (op_e (cb_e rfl (hd.len h)) rfl (by rw [dEq_i, decide_eq_false (by rw [List.length_map]; omega)]; rfl))))).trans ?_
  refine (seq_no (b_e (op_e (cb_e rfl (hd.len h)) rfl (by rw [dGt_i, decide_eq_false (by rw [List.length_map]; omega)])))).trans ?_
  obtain ⟨δ', e, x, y, rfl⟩ := for_chk (h := h) (s := ⟨enD (js.map q), []⟩) (g := gUn 2 (gConsA (gNam 1) (gConsA (gNam 2) gNilA))) (b := L1_checked_tasks) (items := enD (js.map q)) (δ := startA 3 [d]) (fun δ => ∃ x y, δ = [some d, x, y]) rfl ⟨none, none, rfl⟩ (fun i z δ hz ⟨x, y, e⟩ => by
    subst e
    obtain ⟨v, hv, rfl⟩ := en_get hz
    rw [List.getElem?_map] at hv
    obtain ⟨p, hp, rfl⟩ := Option.map_eq_some_iff.mp hv
    have hm := List.mem_of_getElem? hp
    refine ⟨[some d, some (.int i), some (q p)], [some d, some (.int i), some (q p)], rfl, ?_, _, _, rfl⟩
    unfold L1_checked_tasks
    exact if_f (not_e (k := true) (b_e (call_e rfl (is_task_t hc (hq p hm) (jb p hm)))) rfl))
  refine (seq_nxt ((sFor_en rfl hd).trans e)).trans ?_
  refine ret_e (cb_e (cons_e (aLc_seq (d := d) rfl hd (lc_map (f := fun z => match seqOf h z with | some xs => .tup xs | none => .non) (by rw [List.length_map]; omega) (fun z hz => ?_))) rfl) ?_)
  · obtain ⟨p, hp, rfl⟩ := List.mem_map.mp hz
    refine cb_e rfl ?_
    rw [(hq p hp).tup h, (hq p hp).seq h]
  · rw [dTuple_vl, List.map_map]
    congr 2
    refine List.map_congr_left fun p hp => ?_
    show (match seqOf h (q p) with | some xs => D.tup xs | none => .non) = _
    rw [(hq p hp).seq h]
    rfl
end
end Mr
namespace Mr
open PySem PySem.Spec PyProof.Rows L2 Aq
section
variable {h : AH} {d : D} {xs : List D} {δ δ' : AEnv}
theorem is_ascending_t {count : Int} {zs : List Int} (hc : HC h) (q : SQ d (zs.map D.int)) (ha : Asc count zs) : A_is_ascending [d, .int count] h = .ok (.bl true) h := by
  unfold A_is_ascending
  refine Eq.trans (runB_rt (h' := h) (d := .bl true) rfl ?_) (fin_same hc rfl)
  refine (seq_no (not_e (k := true) (b_e (call_e rfl (is_sequence_t hc q))) rfl)).trans ?_
  refine (seq_set (d := .int 0) (h1 := h) rfl).trans ?_
  obtain ⟨δ', h', e, e2, low, x, rfl, _⟩ := for_run (items := zs.map D.int) (g := gNam 3) (b := L1_is_ascending) (δ := [some d, some (.int count), some (.int 0), none]) (h := h)
    (fun i δ hh => hh = h ∧ ∃ low x, δ = [some d, some (.int count), some (.int low), x] ∧ ∀ (j : Nat) z, i ≤ j → zs[j]? = some z → low ≤ z)
    ⟨rfl, 0, none, rfl, fun j z _ hz => (ha.2 z (List.mem_of_getElem? hz)).1⟩ (fun i y δ hh hy ⟨e1, low, x, e2, hl⟩ => by
      have e1' := e1.symm
      subst e1' e2
      rw [List.getElem?_map] at hy
      obtain ⟨z, hz, rfl⟩ := Option.map_eq_some_iff.mp hy
      have h1 := hl i z (Nat.le_refl _) hz
      have h2 := ha.2 z (List.mem_of_getElem? hz)
      refine ⟨[some d, some (.int count), some (.int low), some (.int z)], h, [some d, some (.int count), some (.int (z + 1)), some (.int z)], h, rfl, .inl ?_, rfl, z + 1, _, rfl, fun j w hj hw => ?_⟩
      · unfold L1_is_ascending
        refine (seq_no (not_e (k := true) (b_e (call_e (cons_e rfl (cons_e rfl (cons_e (op_e rfl rfl rfl) rfl))) (by rw [is_within_t hc, decide_eq_true ⟨by omega, by omega⟩]))) rfl)).trans ?_
        rfl
      · obtain ⟨l1, g1⟩ := List.getElem?_eq_some_iff.mp hz
        obtain ⟨l2, g2⟩ := List.getElem?_eq_some_iff.mp hw
        have := List.pairwise_iff_getElem.mp ha.1 i j l1 l2 (by omega)
        rw [g1, g2] at this
        omega)
  rw [e2] at e
  refine (seq_nxt ((sFor_q (a := aVar 0) (h1 := h) rfl q).trans e)).trans ?_
  rfl
theorem checked_models_t {count : Int} {ks : List (List Int)} {q : List Int → D} (hc : HC h) (hd : SQ d (ks.map q)) (hq : ∀ z ∈ ks, SQ (q z) (z.map D.int)) (k0 : 0 < ks.length) (k1 : ks.length ≤ 8) (kd : ∀ z ∈ ks, Asc count z) : A_checked_models [d, .int count] h = .ok (.tup (ks.map kindD)) h := by
  unfold A_checked_models
  refine Eq.trans (runB_rt (h' := h) (d := .tup (ks.map kindD)) rfl ?_) (fin_same hc (clo_kinds ks))
  refine (seq_no (or_f (not_e (k := true) (b_e (call_e rfl (is_sequence_t hc hd))) rfl) (b_e (op_e (cb_e rfl (hd.len h)) rfl (by rw [dEq_i, decide_eq_false (by rw [List.length_map]; omega)]; rfl))))).trans ?_
  refine (seq_no (b_e (op_e (cb_e rfl (hd.len h)) rfl (by rw [dGt_i, decide_eq_false (by rw [List.length_map]; omega)])))).trans ?_
  obtain ⟨δ', e, x, y, rfl⟩ := for_chk (h := h) (s := ⟨enD (ks.map q), []⟩) (g := gUn 2 (gConsA (gNam 2) (gConsA (gNam 3) gNilA))) (b := L1_checked_models) (items := enD (ks.map q)) (δ := startA 4 [d, .int count]) (fun δ => ∃ x y, δ = [some d, some (.int count), x, y]) rfl ⟨none, none, rfl⟩ (fun i z δ hz ⟨x, y, e⟩ => by
    subst e
    obtain ⟨v, hv, rfl⟩ := en_get hz
    rw [List.getElem?_map] at hv
    obtain ⟨p, hp, rfl⟩ := Option.map_eq_some_iff.mp hv
    have hm := List.mem_of_getElem? hp
    refine ⟨[some d, some (.int count), some (.int i), some (q p)], [some d, some (.int count), some (.int i), some (q p)], rfl, ?_, _, _, rfl⟩
    unfold L1_checked_models
    exact if_f (not_e (k := true) (b_e (call_e rfl (is_ascending_t hc (hq p hm) (kd p hm)))) rfl))
  refine (seq_nxt ((sFor_en rfl hd).trans e)).trans ?_
  refine ret_e (cb_e (cons_e (aLc_seq (d := d) rfl hd (lc_map (f := fun z => match seqOf h z with | some xs => .tup xs | none => .non) (by rw [List.length_map]; omega) (fun z hz => ?_))) rfl) ?_)
  · obtain ⟨p, hp, rfl⟩ := List.mem_map.mp hz
    refine cb_e rfl ?_
    rw [(hq p hp).tup h, (hq p hp).seq h]
  · rw [dTuple_vl, List.map_map]
    congr 2
    refine List.map_congr_left fun p hp => ?_
    show (match seqOf h (q p) with | some xs => D.tup xs | none => .non) = _
    rw [(hq p hp).seq h]
    rfl
theorem SQ.ix {i : Int} (q : SQ d xs) (h0 : 0 ≤ i) {x : D} (e : xs[i.toNat]? = some x) : dIx d (.int i) h = .ok x h := by
  rcases q with rfl | rfl
  · exact dIx_tup h0 e
  · exact dIx_vl h0 e
theorem is_arc_t {p : P2} {mo co : Int} (hc : HC h) (q : PQ d p) (h0 : 0 ≤ p.1 ∧ p.1 < mo ∧ 0 ≤ p.2 ∧ p.2 < co) : A_is_arc [d, .int mo, .int co] h = .ok (.bl true) h := by
  unfold A_is_arc
  refine Eq.trans (runB_rt (h' := h) (d := .bl true) rfl (ret_e ?_)) (fin_same hc rfl)
  refine andV_t (call_e rfl (has_length_t hc q)) (andV_t (call_e (cons_e (op_e rfl rfl (SQ.ix q (by decide) rfl)) (cons_e rfl (cons_e (op_e rfl rfl rfl) rfl))) (by rw [is_within_t hc, decide_eq_true ⟨by omega, by omega⟩])) (call_e (cons_e (op_e rfl rfl (SQ.ix q (by decide) rfl)) (cons_e rfl (cons_e (op_e rfl rfl rfl) rfl))) (by rw [is_within_t hc, decide_eq_true ⟨by omega, by omega⟩])))
theorem is_slips_t {o : Option Int} (hc : HC h) (ho : ∀ i, o = some i → 0 ≤ i ∧ i ≤ 8) : A_is_slips [optD o] h = .ok (.bl true) h := by
  unfold A_is_slips
  refine Eq.trans (runB_rt (h' := h) (d := .bl true) rfl (ret_e ?_)) (fin_same hc rfl)
  cases o with
  | none => exact orV_t (op_e rfl rfl rfl)
  | some i =>
    have := ho i rfl
    exact orV_f (op_e rfl rfl rfl) (call_e rfl (by
      show A_is_within [.int i, .int 0, .int 8] h = _
      rw [is_within_t hc, decide_eq_true ⟨by omega, by omega⟩]))
theorem is_state_t {mo co : Int} {ps : List P2} {q : P2 → D} (hc : HC h) (hd : SQ d (ps.map q)) (hq : ∀ p ∈ ps, PQ (q p) p) (ha : ArcsOk mo co ps) (hl : ps.length ≤ 40) : A_is_state [d, .int mo, .int co] h = .ok (.bl true) h := by
  unfold A_is_state
  have hne : 0 < ps.length := List.length_pos_iff.mpr ha.ne
  have hc2 : ∀ l : List P2, HC (h ++ [.lst (l.map pD)]) := fun l => hc.push (c := .lst (l.map pD)) (clo_pD l)
  obtain ⟨δ', h', e, x, rfl, rfl⟩ := for_run (items := ps.map q) (g := gNam 4) (b := L1_is_state) (δ := [some d, some (.int mo), some (.int co), some (.ref h.length), none]) (h := h ++ [.lst []])
    (fun i δ hh => ∃ x, δ = [some d, some (.int mo), some (.int co), some (.ref h.length), x] ∧ hh = h ++ [.lst ((ps.take i).map pD)])
    ⟨none, rfl, rfl⟩ (fun i y δ hh hy ⟨x, e1, e2⟩ => by
      subst e1 e2
      rw [List.getElem?_map] at hy
      obtain ⟨p, hp, rfl⟩ := Option.map_eq_some_iff.mp hy
      have hm := List.mem_of_getElem? hp
      refine ⟨[some d, some (.int mo), some (.int co), some (.ref h.length), some (q p)], h ++ [.lst ((ps.take i).map pD)], [some d, some (.int mo), some (.int co), some (.ref h.length), some (q p)], h ++ [.lst ((ps.take (i + 1)).map pD)], rfl, .inl ?_, _, rfl, rfl⟩
      unfold L1_is_state
      have g := get_push (h := h) (c := Cell.lst ((ps.take i).map pD)) rfl
      have hnot : p ∉ ps.take i := fun m => by
        obtain ⟨l1, g1⟩ := List.getElem?_eq_some_iff.mp hp
        obtain ⟨j, hj, e⟩ := List.getElem_of_mem m
        rw [List.length_take] at hj
        rw [List.getElem_take] at e
        have := (List.pairwise_iff_getElem.mp ha.nd) j i (by omega) l1 (by omega)
        exact this (by rw [e, g1])
      have hin : dIn false (pD p) (.ref h.length) (h ++ [.lst ((ps.take i).map pD)]) = .ok (.bl false) (h ++ [.lst ((ps.take i).map pD)]) := by
        rw [dIn_pairs (neg := false) (ps := ps.take i) (by
          show (_[h.length]?).bind Cell.lst? = _
          rw [g]
          rfl), decide_eq_false hnot]
        rfl
      refine (seq_no (or_f (not_e (k := true) (b_e (call_e rfl (is_arc_t (hc2 _) (hq p hm) (ha.inn p hm)))) rfl) (b_e (op_e (cb_e rfl ((hq p hm).tup _)) rfl hin)))).trans ?_
      have ap := aApp_e (a := aVar 3) (b := aCb dTuple (aCons (aVar 4) aNil)) (δ := [some d, some (.int mo), some (.int co), some (.ref h.length), some (q p)]) (n := h.length) (xs := (ps.take i).map pD) (zs := (ps.take i).map pD) (d := pD p) rfl g (cb_e rfl ((hq p hm).tup _)) g (by rw [List.length_map, List.length_take]; omega)
      rw [set_push rfl] at ap
      rw [sExp_e]
      refine (congrArg (fun r => Mr.R.thn r _ _) ap).trans ?_
      rw [List.take_add_one, hp, List.map_append]
      rfl)
  refine Eq.trans (runB_rt (h' := h ++ [.lst ((ps.take (ps.map q).length).map pD)]) (d := .bl true) rfl ?_) ?_
  · refine (seq_no (not_e (k := true) (b_e (call_e rfl (by rw [has_length_t hc hd, decide_eq_true (by rw [List.length_map]; omega)]))) rfl)).trans ?_
    refine (seq_set (d := .ref h.length) (h1 := h ++ [.lst []]) rfl).trans ?_
    refine (seq_nxt ((sFor_q (a := aVar 0) (h1 := h ++ [.lst []]) rfl hd).trans e)).trans ?_
    rfl
  · have hk := take_push (h := h) (l := [Cell.lst ((ps.take (ps.map q).length).map pD)]) (k := h.length) rfl
    have := fin_val (n := h.length) (h := h ++ [.lst ((ps.take (ps.map q).length).map pD)]) (d := .bl true) (by rw [hk]; exact hc) rfl
    rw [hk] at this
    exact this
theorem checked_states_t {mo : Int} {ls : List (List P2)} {Q : List P2 → D} {q : P2 → D} (hc : HC h) (hd : SQ d (ls.map Q)) (hQ : ∀ ps ∈ ls, SQ (Q ps) (ps.map q)) (hq : ∀ p, PQ (q p) p) (s0 : 0 < ls.length) (s1 : ls.length ≤ 60) (st : ∀ ps ∈ ls, ArcsOk mo ls.length ps ∧ ps.length ≤ 40) : A_checked_states [d, .int mo] h = .ok (.tup (ls.map arcD)) h := by
  unfold A_checked_states
  refine Eq.trans (runB_rt (h' := h) (d := .tup (ls.map arcD)) rfl ?_) (fin_same hc (clo_arcs ls))
  refine (seq_no (or_f (not_e (k := true) (b_e (call_e rfl (is_sequence_t hc hd))) rfl) (b_e (op_e (cb_e rfl (hd.len h)) rfl (by rw [dEq_i, decide_eq_false (by rw [List.length_map]; omega)]; rfl))))).trans ?_
  refine (seq_no (b_e (op_e (cb_e rfl (hd.len h)) rfl (by rw [dGt_i, decide_eq_false (by rw [List.length_map]; omega)])))).trans ?_
  obtain ⟨δ', e, x, y, rfl⟩ := for_chk (h := h) (s := ⟨enD (ls.map Q), []⟩) (g := gUn 2 (gConsA (gNam 2) (gConsA (gNam 3) gNilA))) (b := L1_checked_states) (items := enD (ls.map Q)) (δ := startA 5 [d, .int mo]) (fun δ => ∃ x y, δ = [some d, some (.int mo), x, y, none]) rfl ⟨none, none, rfl⟩ (fun i z δ hz ⟨x, y, e⟩ => by
    subst e
    obtain ⟨v, hv, rfl⟩ := en_get hz
    rw [List.getElem?_map] at hv
    obtain ⟨p, hp, rfl⟩ := Option.map_eq_some_iff.mp hv
    have hm := List.mem_of_getElem? hp
    refine ⟨[some d, some (.int mo), some (.int i), some (Q p), none], [some d, some (.int mo), some (.int i), some (Q p), none], rfl, ?_, _, _, rfl⟩
    unfold L1_checked_states
    exact if_f (not_e (k := true) (b_e (call_e (cons_e rfl (cons_e rfl (cons_e (cb_e rfl (hd.len h)) rfl))) (by
      rw [List.length_map]
      exact is_state_t hc (hQ p hm) (fun r _ => hq r) (st p hm).1 (st p hm).2))) rfl))
  refine (seq_nxt ((sFor_en rfl hd).trans e)).trans ?_
  refine ret_e (cb_e (cons_e (aLc_seq (d := d) rfl hd (lc_map (f := fun z => match seqOf h z with | some xs => .tup (xs.map fun y => match seqOf h y with | some zs => .tup zs | none => .non) | none => .non) (by rw [List.length_map]; omega) (fun z hz => ?_))) rfl) ?_)
  · obtain ⟨p, hp, rfl⟩ := List.mem_map.mp hz
    rw [(hQ p hp).seq h]
    refine cb_e (cons_e (aLc_seq (d := Q p) rfl (hQ p hp) (lc_map (f := fun y => match seqOf h y with | some zs => .tup zs | none => .non) (by rw [List.length_map]; have := (st p hp).2; omega) (fun w hw => ?_))) rfl) rfl
    obtain ⟨r, hr, rfl⟩ := List.mem_map.mp hw
    refine cb_e rfl ?_
    rw [(hq r).tup h, (hq r).seq h]
  · rw [dTuple_vl, List.map_map]
    congr 2
    refine List.map_congr_left fun p hp => ?_
    show (match seqOf h (Q p) with | some xs => D.tup (xs.map fun y => match seqOf h y with | some zs => .tup zs | none => .non) | none => .non) = _
    rw [(hQ p hp).seq h]
    show D.tup ((p.map q).map fun y => match seqOf h y with | some zs => .tup zs | none => .non) = .tup (p.map pD)
    rw [List.map_map]
    congr 1
    refine List.map_congr_left fun r _ => ?_
    show (match seqOf h (q r) with | some zs => D.tup zs | none => .non) = _
    rw [(hq r).seq h]
    rfl
end
end Mr
namespace Mr
open PySem PySem.Spec PyProof.Rows L2 Aq
/-! ### the order: bit k of the j-th mask stands only if k comes behind j -/
def mvD (ms : List Nat) : List D := ms.map fun m : Nat => D.int (m : Int)
theorem mvD_len (ms : List Nat) : (mvD ms).length = ms.length := List.length_map _
theorem mvD_at {ms : List Nat} {i m : Nat} (h : ms[i]? = some m) : (mvD ms)[i]? = some (D.int (m : Int)) := by
  unfold mvD
  rw [List.getElem?_map, h]
  rfl
theorem mvD_set (ms : List Nat) (i m : Nat) : (mvD ms).set i (D.int (m : Int)) = mvD (ms.set i m) := by
  unfold mvD
  rw [List.map_set]
theorem mvD_clo (ms : List Nat) : cloL 0 (mvD ms) = true := clol_iff.mpr fun x m => by
  obtain ⟨p, _, rfl⟩ := List.mem_map.mp m
  rfl
def Rank (rk : Nat → Nat) (ms : List Nat) : Prop := ∀ j m k, ms[j]? = some m → m.testBit k = true → rk j < rk k
theorem shr_nat (m x : Nat) : ((m : Int) / 2 ^ ((x : Int).toNat)) = ((m >>> x : Nat) : Int) := by
  rw [Int.toNat_natCast, Nat.shiftRight_eq_div_pow]
  simp
theorem and_one (a : Nat) : Builtin.bitAnd (a : Int) 1 = ((a &&& 1 : Nat) : Int) := by
  rw [bitAnd_pp (Int.natCast_nonneg a) (by decide)]
  simp
theorem bit_of (m x : Nat) : ((((m >>> x) &&& 1 : Nat) : Int) != 0) = m.testBit x := by
  unfold Nat.testBit
  rw [Nat.and_comm]
  cases h : (1 &&& m >>> x) with
  | zero => rfl
  | succ n =>
    simp
    omega
theorem shl_nat (y : Nat) : ((1 : Int) * 2 ^ ((y : Int).toNat)) = ((2 ^ y : Nat) : Int) := by
  rw [Int.toNat_natCast, Int.one_mul]
  simp
theorem or_nat (a b : Nat) : Builtin.bitOr (a : Int) (b : Int) = ((a ||| b : Nat) : Int) := by
  rw [Bits.bitOr_pp (Int.natCast_nonneg a) (Int.natCast_nonneg b)]
  simp
theorem rank_set {rk : Nat → Nat} {ms : List Nat} {t y m later : Nat} (hR : Rank rk ms) (hl : ∀ k, later.testBit k = true → rk y < rk k ∨ k = y) (hm : ms[t]? = some m) (hlt : rk t < rk y) : Rank rk (ms.set t (m ||| later)) := by
  intro j m' k h1 h2
  rw [List.getElem?_set] at h1
  split at h1
  · rename_i e
    subst e
    split at h1
    · cases h1
      rw [Nat.testBit_or, Bool.or_eq_true] at h2
      rcases h2 with h2 | h2
      · exact hR _ _ _ hm h2
      · rcases hl k h2 with h3 | h3
        · exact Nat.lt_trans hlt h3
        · rw [h3]
          exact hlt
    · cases h1
  · exact hR _ _ _ h1 h2
theorem later_ok {rk : Nat → Nat} {ms : List Nat} {y m : Nat} (hR : Rank rk ms) (hm : ms[y]? = some m) : ∀ k, (m ||| 2 ^ y).testBit k = true → rk y < rk k ∨ k = y := fun k h => by
  rw [Nat.testBit_or, Bool.or_eq_true] at h
  rcases h with h | h
  · exact .inl (hR _ _ _ hm h)
  · rw [Nat.testBit_two_pow] at h
    exact .inr (of_decide_eq_true h).symm
section
variable {h : AH} {d : D} {xs : List D} {δ δ' : AEnv} {i j : Int}
theorem dOr_i : dOr (.int i) (.int j) h = .ok (.int (Builtin.bitOr i j)) h := rfl
theorem dAnd_i : dAnd (.int i) (.int j) h = .ok (.int (Builtin.bitAnd i j)) h := rfl
theorem dShr_i (hj : 0 ≤ j) : dShr (.int i) (.int j) h = .ok (.int (i / 2 ^ j.toNat)) h := by
  show (if decide (0 ≤ j) = true then _ else _) = _
  rw [if_pos (decide_eq_true hj)]
theorem dShl_1 (hj : 0 ≤ j ∧ j ≤ 1000000) : dShl (.int 1) (.int j) h = .ok (.int (1 * 2 ^ j.toNat)) h := by
  show (if decide (0 ≤ j ∧ j ≤ 1000000 ∧ (1 : Int).natAbs < 2 ^ 64) = true then _ else _) = _
  rw [if_pos (decide_eq_true ⟨hj.1, hj.2, by decide⟩)]
theorem tru_e {a : AEx} {h1 : AH} {k : Bool} (e : a δ h = .ok (.int i) h1) (hk : k = (i != 0)) : aTru a δ h = .ok k h1 := by
  unfold aTru
  rw [e, R.bind_ok, hk]
  rfl
theorem fin_len {k : Nat} {d : D} (hk : k = h.length) (hc : HC h) (hd : d.clo 0 = true) : fin false k d h = .ok d h := by
  rw [hk]
  exact fin_same hc hd
theorem put_e {rk : Nat → Nat} {ms : List Nat} {b x y : Nat} (hc : HC h) (hb : h[b]? = some (.lst (mvD ms))) (hz : ms.length ≤ 1000) (hx : x < ms.length) (hy : y < ms.length) (hR : Rank rk ms) (hxy : rk x < rk y) :
    ∃ ms', A_put_behind [.ref b, .int (x : Int), .int (y : Int)] h = .ok .non (h.set b (.lst (mvD ms'))) ∧ ms'.length = ms.length ∧ Rank rk ms' := by
  have hbl : b < h.length := (List.getElem?_eq_some_iff.mp hb).1
  obtain ⟨my, hmy⟩ : ∃ m, ms[y]? = some m := ⟨_, List.getElem?_eq_getElem hy⟩
  have eL : Builtin.bitOr (my : Int) (1 * 2 ^ (y : Int).toNat) = ((my ||| 2 ^ y : Nat) : Int) := by rw [shl_nat, or_nat]
  have hs : ∀ cs : List Nat, (h.set b (.lst (mvD cs)))[b]? = some (.lst (mvD cs)) := fun cs => List.getElem?_set_self hbl
  have hcs : ∀ cs : List Nat, HC (h.set b (.lst (mvD cs))) := fun cs => hc.set _ (c := .lst (mvD cs)) (mvD_clo cs)
  have ix : ∀ (cs : List Nat) (j m : Nat), cs[j]? = some m → dIx (.ref b) (.int (j : Int)) (h.set b (.lst (mvD cs))) = .ok (.int (m : Int)) (h.set b (.lst (mvD cs))) := fun cs j m e => dIx_ref (Int.natCast_nonneg j) (hs cs) (by rw [Int.toNat_natCast]; exact mvD_at e)
  have h0 : h.set b (.lst (mvD ms)) = h := by
    refine List.ext_getElem? fun i => ?_
    rw [List.getElem?_set]
    split
    · rename_i e
      subst e
      exact hb.symm
    · rfl
  obtain ⟨δ', h', e, z, cs, rfl, rfl, hl, hC⟩ := for_run (items := rgD 0 ms.length) (g := gNam 4) (b := L1_put_behind) (δ := [some (.ref b), some (.int (x : Int)), some (.int (y : Int)), some (.int ((my ||| 2 ^ y : Nat) : Int)), none]) (h := h.set b (.lst (mvD ms)))
    (fun i δ hh => ∃ z cs, δ = [some (.ref b), some (.int (x : Int)), some (.int (y : Int)), some (.int ((my ||| 2 ^ y : Nat) : Int)), z] ∧ hh = h.set b (.lst (mvD cs)) ∧ cs.length = ms.length ∧ Rank rk cs)
    ⟨none, ms, rfl, rfl, rfl, hR⟩ (fun i v δ hh hv ⟨z, cs, e1, e2, hl, hC⟩ => by
      subst e1 e2
      obtain ⟨hi, rfl⟩ := rgD_get hv
      obtain ⟨mi, hmi⟩ : ∃ m, cs[i]? = some m := ⟨_, List.getElem?_eq_getElem (by omega)⟩
      have ei := ix cs i mi hmi
      have step : rk i < rk y → sAsg (aOp dOr (aOp dIx (aVar 0) (aVar 4)) (aVar 3)) (gSubA (aVar 0) (aVar 4)) [some (.ref b), some (.int (x : Int)), some (.int (y : Int)), some (.int ((my ||| 2 ^ y : Nat) : Int)), some (.int i)] (h.set b (.lst (mvD cs)))
          = .nx [some (.ref b), some (.int (x : Int)), some (.int (y : Int)), some (.int ((my ||| 2 ^ y : Nat) : Int)), some (.int i)] (h.set b (.lst (mvD (cs.set i (mi ||| (my ||| 2 ^ y)))))) := fun hlt => by
        have eo : aOp dOr (aOp dIx (aVar 0) (aVar 4)) (aVar 3) [some (.ref b), some (.int (x : Int)), some (.int (y : Int)), some (.int ((my ||| 2 ^ y : Nat) : Int)), some (.int i)] (h.set b (.lst (mvD cs))) = .ok (.int ((mi ||| (my ||| 2 ^ y) : Nat) : Int)) (h.set b (.lst (mvD cs))) := op_e (op_e rfl rfl ei) rfl (by rw [dOr_i, or_nat])
        have g := gSub_e (a := aVar 0) (b := aVar 4) (d := .int ((mi ||| (my ||| 2 ^ y) : Nat) : Int)) (δ := [some (.ref b), some (.int (x : Int)), some (.int (y : Int)), some (.int ((my ||| 2 ^ y : Nat) : Int)), some (.int i)]) (h := h.set b (.lst (mvD cs))) (n := b) (i := (i : Int)) (i' := i) (xs := mvD cs) rfl rfl (hs cs) (by
          unfold ixN
          rw [mvD_len, if_pos (by omega), if_pos (by omega), Int.toNat_natCast])
        rw [sAsg_e, eo]
        refine (congrArg Mr.R.toS g).trans ?_
        rw [toS_ok, List.set_set, mvD_set]
      by_cases hix : i = x
      · subst hix
        refine ⟨_, _, _, _, rfl, .inl ?_, some (.int i), cs.set i (mi ||| (my ||| 2 ^ y)), rfl, rfl, by rw [List.length_set]; exact hl, rank_set (y := y) hC (later_ok hR hmy) hmi hxy⟩
        unfold L1_put_behind
        exact (if_t (or_t (b_e (op_e rfl rfl (by rw [dEq_i, decide_eq_true rfl]; rfl))))).trans (step hxy)
      · have eT : (Builtin.bitAnd ((mi : Int) / 2 ^ (x : Int).toNat) 1 != 0) = mi.testBit x := by rw [shr_nat, and_one, bit_of]
        have ec : ∀ k, k = mi.testBit x → (aOr (aB (aOp (dEq false) (aVar 4) (aVar 1))) (aTru (aOp dAnd (aOp dShr (aOp dIx (aVar 0) (aVar 4)) (aVar 1)) (aC (.int 1))))) [some (.ref b), some (.int (x : Int)), some (.int (y : Int)), some (.int ((my ||| 2 ^ y : Nat) : Int)), some (.int i)] (h.set b (.lst (mvD cs))) = .ok k (h.set b (.lst (mvD cs))) := fun k hk =>
          or_f (b_e (op_e rfl rfl (by rw [dEq_i, decide_eq_false (by omega)]; rfl))) (tru_e (op_e (op_e (op_e rfl rfl ei) rfl (dShr_i (by omega))) rfl dAnd_i) (by rw [eT, hk]))
        cases ht : mi.testBit x with
        | true =>
          have hlt := Nat.lt_trans (hC _ _ _ hmi ht) hxy
          refine ⟨_, _, _, _, rfl, .inl ?_, some (.int i), cs.set i (mi ||| (my ||| 2 ^ y)), rfl, rfl, by rw [List.length_set]; exact hl, rank_set (y := y) hC (later_ok hR hmy) hmi hlt⟩
          unfold L1_put_behind
          exact (if_t (ec true ht.symm)).trans (step hlt)
        | false =>
          refine ⟨_, _, _, _, rfl, .inl ?_, some (.int i), cs, rfl, rfl, hl, hC⟩
          unfold L1_put_behind
          exact (if_f (ec false ht.symm)).trans rfl)
  rw [h0] at e
  refine ⟨cs, ?_, hl, hC⟩
  unfold A_put_behind
  refine Eq.trans (runB_nx (h' := h.set b (.lst (mvD cs))) (δ := [some (.ref b), some (.int (x : Int)), some (.int (y : Int)), some (.int ((my ||| 2 ^ y : Nat) : Int)), z]) rfl ?_) (fin_len (by rw [List.length_set]) (hcs cs) rfl)
  have ey := ix ms y my hmy
  rw [h0] at ey
  refine (seq_set (d := .int ((my ||| 2 ^ y : Nat) : Int)) (h1 := h) (op_e (op_e rfl rfl ey) (op_e rfl rfl (dShl_1 ⟨by omega, by omega⟩)) (by rw [dOr_i, eL]))).trans ?_
  have ef := sFor_rg (t := aCons (aCb dLen (aCons (aVar 0) aNil)) aNil) (g := gNam 4) (b := L1_put_behind) (δ := [some (.ref b), some (.int (x : Int)), some (.int (y : Int)), some (.int ((my ||| 2 ^ y : Nat) : Int)), none]) (h := h) (h1 := h) (n := ms.length) (cons_e (cb_e rfl (by rw [dLen_ref hb, mvD_len])) rfl) (by omega) (by omega)
  rw [Int.toNat_natCast, e] at ef
  exact ef
theorem dAll_vl (bs : List Bool) : dAll [.vl (bs.map D.bl)] h = .ok (.bl (bs.all id)) h := by
  have e : ∀ bs : List Bool, blsOf (bs.map D.bl) = some bs := by
    intro bs
    induction bs with
    | nil => rfl
    | cons b bs ih => simp [blsOf, ih]
  have e2 : lblsOf h (.vl (bs.map D.bl)) = some bs := e bs
  show (match lblsOf h (.vl (bs.map D.bl)) with | some bs => _ | none => _) = _
  rw [e2]
theorem are_within_t {zs : List Int} {a b : Int} (hc : HC h) (q : SQ d (zs.map D.int)) (hl : zs.length ≤ 1000) : A_are_within [d, .int a, .int b] h = .ok (.bl (zs.all fun z => decide (a ≤ z ∧ z ≤ b))) h := by
  unfold A_are_within
  refine Eq.trans (runB_rt (h' := h) (d := .bl _) rfl (ret_e ?_)) (fin_same hc rfl)
  refine andV_t (call_e rfl (is_sequence_t hc q)) ?_
  have e := lc_map (h := h) (ds := zs.map D.int) (i := 3) (δ := wipA [some d, some (.int a), some (.int b), none] [3]) (te := aCall A_is_within (aCons (aVar 3) (aCons (aVar 1) (aCons (aVar 2) aNil)))) (f := fun z => match z with | .int z => .bl (decide (a ≤ z ∧ z ≤ b)) | _ => .non) (by rw [List.length_map]; omega) (fun z hz => by
    obtain ⟨w, _, rfl⟩ := List.mem_map.mp hz
    exact call_e rfl (is_within_t hc))
  refine cb_e (cons_e (aLc_seq (d := d) rfl q e) rfl) ?_
  have e2 : (zs.map D.int).map (fun z => match z with | .int z => D.bl (decide (a ≤ z ∧ z ≤ b)) | _ => .non) = (zs.map fun z => decide (a ≤ z ∧ z ≤ b)).map D.bl := by
    rw [List.map_map, List.map_map]
    rfl
  rw [e2, dAll_vl]
  congr 2
  rw [List.all_map]
  rfl
theorem is_pair_t {p : P2} {n : Int} (hc : HC h) (q : PQ d p) (h0 : 0 ≤ p.1 ∧ p.1 < n ∧ 0 ≤ p.2 ∧ p.2 < n) (hne : p.1 ≠ p.2) : A_is_pair [d, .int n] h = .ok (.bl true) h := by
  unfold A_is_pair
  refine Eq.trans (runB_rt (h' := h) (d := .bl true) rfl (ret_e ?_)) (fin_same hc rfl)
  refine andV_t (call_e rfl (has_length_t hc q)) ?_
  have e : A_are_within [d, .int 0, .int (n - 1)] h = .ok (.bl true) h := by
    rw [are_within_t (zs := [p.1, p.2]) hc q (by simp)]
    congr 2
    simp
    omega
  refine andV_t (call_e (cons_e rfl (cons_e rfl (cons_e (op_e rfl rfl rfl) rfl))) e) ?_
  exact op_e (op_e rfl rfl (SQ.ix q (by decide) rfl)) (op_e rfl rfl (SQ.ix q (by decide) rfl)) (by rw [dEq_i, decide_eq_false hne]; rfl)
end
end Mr
namespace Mr
open PySem PySem.Spec PyProof.Rows L2 Aq
section
variable {h : AH} {d : D} {xs : List D} {δ δ' : AEnv} {i j : Int}
theorem rep0 : ∀ k : Nat, (List.replicate k [D.int 0]).flatten = mvD (List.replicate k 0)
  | 0 => rfl
  | k + 1 => by
    rw [List.replicate_succ, List.replicate_succ, List.flatten_cons, rep0 k]
    rfl
theorem rank0 (rk : Nat → Nat) (k : Nat) : Rank rk (List.replicate k 0) := fun j m x h1 h2 => by
  rw [List.getElem?_replicate] at h1
  split at h1
  · cases h1
    rw [Nat.zero_testBit] at h2
    cases h2
  · cases h1
theorem rep_cond (k : Nat) (hk : k ≤ 1000) : decide (-(2 ^ 63) ≤ (k : Int) ∧ (k : Int) < 2 ^ 63) = true := decide_eq_true ⟨by omega, by omega⟩
theorem rep_cond2 (k : Nat) (hk : k ≤ 1000) : SzOk ([D.int 0].length * (k : Int).toNat) := szOk (by rw [List.length_singleton, Int.toNat_natCast, Nat.one_mul]; omega)
theorem aRep_1 {a b : AEx} {k : Int} (eb : b δ h = .ok (.vl xs) h) (e : a δ h = .ok (.int k) h) (h1 : decide (-(2 ^ 63) ≤ k ∧ k < 2 ^ 63) = true) (h2 : SzOk (xs.length * k.toNat)) : aRep b a δ h = .ok (.ref h.length) (h ++ [.lst (List.replicate k.toNat xs).flatten]) := by
  unfold aRep
  rw [eb, Mr.R.bind_ok, e, Mr.R.bind_ok]
  split
  · rename_i ys j hy hj
    cases hj
    have hy' : some xs = some ys := hy
    cases hy'
    exact if_pos ⟨h1, h2⟩
  · rename_i hn
    exact absurd rfl (hn xs k rfl)
theorem aRep_0 {a : AEx} {k : Nat} (e : a δ h = .ok (.int k) h) (hk : k ≤ 1000) : aRep (aVl (aCons (aC (.int 0)) aNil)) a δ h = .ok (.ref h.length) (h ++ [.lst (mvD (List.replicate k 0))]) := by
  rw [aRep_1 (xs := [.int 0]) rfl e (rep_cond k hk) (rep_cond2 k hk), Int.toNat_natCast, rep0]
/-- two cells at the end -/
theorem g1 {x y : Cell} : (h ++ [x, y])[h.length]? = some x := by simp
theorem g2 {x y : Cell} : (h ++ [x, y])[h.length + 1]? = some y := by simp
theorem s1 {x y z : Cell} : (h ++ [x, y]).set h.length z = h ++ [z, y] := by simp
theorem s2 {x y z : Cell} : (h ++ [x, y]).set (h.length + 1) z = h ++ [x, z] := by simp
theorem hc2 {x y : Cell} (hc : HC h) (h1 : x.clo 0 = true) (h2 : y.clo 0 = true) : HC (h ++ [x, y]) := by
  have := (hc.push h1).push h2
  rwa [List.append_assoc] at this
theorem checked_order_t {n : Nat} {ps : List P2} {q : P2 → D} {rk : Int → Nat} (hc : HC h) (hd : SQ d (ps.map q)) (hq : ∀ p ∈ ps, PQ (q p) p) (ho : Ordd n ps rk) (hl : ps.length ≤ 200) (hn : n ≤ 24) : A_checked_order [d, .int n] h = .ok (.tup (ps.map pD)) h := by
  unfold A_checked_order
  have H2 : ∀ (l : List P2) (ms : List Nat), HC (h ++ [.lst (l.map pD), .lst (mvD ms)]) := fun l ms => hc2 hc (x := .lst (l.map pD)) (y := .lst (mvD ms)) (clo_pD l) (mvD_clo ms)
  obtain ⟨δ', h', e, ms, o4, o5, o6, o7, rfl, rfl, hm, hR⟩ := for_run (items := enD (ps.map q)) (g := gUn 2 (gConsA (gNam 4) (gConsA (gNam 5) gNilA))) (b := L1_checked_order) (δ := [some d, some (.int n), some (.ref h.length), some (.ref (h.length + 1)), none, none, none, none]) (h := h ++ [.lst [], .lst (mvD (List.replicate n 0))])
    (fun i δ hh => ∃ ms o4 o5 o6 o7, δ = [some d, some (.int n), some (.ref h.length), some (.ref (h.length + 1)), o4, o5, o6, o7] ∧ hh = h ++ [.lst ((ps.take i).map pD), .lst (mvD ms)] ∧ ms.length = n ∧ Rank (fun k => rk k) ms)
    ⟨List.replicate n 0, none, none, none, none, rfl, rfl, List.length_replicate, rank0 _ _⟩ (fun i z δ hh hz ⟨ms, o4, o5, o6, o7, e1, e2, hm, hR⟩ => by
      subst e1 e2
      obtain ⟨v, hv, rfl⟩ := en_get hz
      rw [List.getElem?_map] at hv
      obtain ⟨p, hp, rfl⟩ := Option.map_eq_some_iff.mp hv
      have hmem := List.mem_of_getElem? hp
      obtain ⟨b0, b1, a0, a1⟩ := ho.inn p hmem
      have hlt := ho.rk p hmem
      have hne : p.1 ≠ p.2 := fun e => by rw [e] at hlt; exact Nat.lt_irrefl _ hlt
      obtain ⟨x, hx⟩ := Int.eq_ofNat_of_zero_le b0
      obtain ⟨y, hy⟩ := Int.eq_ofNat_of_zero_le a0
      have hxn : x < ms.length := by omega
      have hyn : y < ms.length := by omega
      have hrk : rk (x : Int) < rk (y : Int) := by rw [← hx, ← hy]; exact hlt
      have hpD : pD p = .tup [.int x, .int y] := by
        show D.tup [.int p.1, .int p.2] = _
        rw [hx, hy]
      obtain ⟨my, hmy⟩ : ∃ m, ms[y]? = some m := ⟨_, List.getElem?_eq_getElem hyn⟩
      have hnot : p ∉ ps.take i := fun m => by
        obtain ⟨l1, g1⟩ := List.getElem?_eq_some_iff.mp hp
        obtain ⟨j, hj, e⟩ := List.getElem_of_mem m
        rw [List.length_take] at hj
        rw [List.getElem_take] at e
        have := (List.pairwise_iff_getElem.mp ho.nd) j i (by omega) l1 (by omega)
        exact this (by rw [e, g1])
      have hbit : my.testBit x = false := by
        cases ht : my.testBit x with
        | false => rfl
        | true => exact absurd (hR y my x hmy ht) (by show ¬ rk (y : Int) < rk (x : Int); omega)
      -- the heaps
      have eput := put_e (h := h ++ [.lst ((ps.take (i + 1)).map pD), .lst (mvD ms)]) (rk := fun k => rk k) (ms := ms) (b := h.length + 1) (x := x) (y := y) (H2 _ _) g2 (by omega) hxn hyn hR hrk
      obtain ⟨ms', ep, hl', hR'⟩ := eput
      rw [s2] at ep
      refine ⟨[some d, some (.int n), some (.ref h.length), some (.ref (h.length + 1)), some (.int i), some (q p), o6, o7], h ++ [.lst ((ps.take i).map pD), .lst (mvD ms)], [some d, some (.int n), some (.ref h.length), some (.ref (h.length + 1)), some (.int i), some (q p), some (.int x), some (.int y)], h ++ [.lst ((ps.take (i + 1)).map pD), .lst (mvD ms')], rfl, .inl ?_, ms', _, _, _, _, rfl, rfl, by omega, hR'⟩
      unfold L1_checked_order
      refine (seq_no (not_e (k := true) (b_e (call_e rfl (is_pair_t (H2 _ _) (hq p hmem) ⟨b0, b1, a0, a1⟩ hne))) rfl)).trans ?_
      have eas : sAsg (aVar 5) (gUn 2 (gConsA (gNam 6) (gConsA (gNam 7) gNilA))) [some d, some (.int n), some (.ref h.length), some (.ref (h.length + 1)), some (.int i), some (q p), o6, o7] (h ++ [.lst ((ps.take i).map pD), .lst (mvD ms)])
          = .nx [some d, some (.int n), some (.ref h.length), some (.ref (h.length + 1)), some (.int i), some (q p), some (.int x), some (.int y)] (h ++ [.lst ((ps.take i).map pD), .lst (mvD ms)]) := by
        rw [sAsg_e]
        show (gUn 2 _ (q p) _ _).toS = _
        rw [gUn_q (n := 2) (hq p hmem) rfl, hx, hy]
        rfl
      refine (seq_nxt eas).trans ?_
      have hin : dIn false (pD p) (.ref h.length) (h ++ [.lst ((ps.take i).map pD), .lst (mvD ms)]) = .ok (.bl false) (h ++ [.lst ((ps.take i).map pD), .lst (mvD ms)]) := by
        rw [dIn_pairs (neg := false) (ps := ps.take i) (by
          show (_[h.length]?).bind Cell.lst? = _
          rw [g1]
          rfl), decide_eq_false hnot]
        rfl
      rw [hpD] at hin
      have eix : dIx (.ref (h.length + 1)) (.int (y : Int)) (h ++ [.lst ((ps.take i).map pD), .lst (mvD ms)]) = .ok (.int (my : Int)) (h ++ [.lst ((ps.take i).map pD), .lst (mvD ms)]) := dIx_ref (Int.natCast_nonneg y) g2 (by rw [Int.toNat_natCast]; exact mvD_at hmy)
      have eT : (Builtin.bitAnd ((my : Int) / 2 ^ (x : Int).toNat) 1 != 0) = my.testBit x := by rw [shr_nat, and_one, bit_of]
      refine (seq_no (or_f (b_e (op_e (tup_e rfl) rfl hin)) (tru_e (op_e (op_e (op_e rfl rfl eix) rfl (dShr_i (by omega))) rfl dAnd_i) (by rw [eT, hbit])))).trans ?_
      have ap := aApp_e (a := aVar 2) (b := aTup (aCons (aVar 6) (aCons (aVar 7) aNil))) (δ := [some d, some (.int n), some (.ref h.length), some (.ref (h.length + 1)), some (.int i), some (q p), some (.int x), some (.int y)]) (n := h.length) (xs := (ps.take i).map pD) (zs := (ps.take i).map pD) (d := pD p) (h := h ++ [.lst ((ps.take i).map pD), .lst (mvD ms)]) rfl g1 (by rw [hpD]; rfl) g1 (by rw [List.length_map, List.length_take]; omega)
      rw [s1] at ap
      have et : (ps.take i).map pD ++ [pD p] = (ps.take (i + 1)).map pD := by
        rw [List.take_add_one, hp, List.map_append]
        rfl
      rw [et] at ap
      refine (seq_exp ap).trans ?_
      rw [sExp_e, call_e rfl ep]
      rfl)
  refine Eq.trans (runB_rt (h' := h ++ [.lst ((ps.take (enD (ps.map q)).length).map pD), .lst (mvD ms)]) (d := .tup (ps.map pD)) rfl ?_) ?_
  · refine (seq_no (not_e (k := true) (b_e (call_e rfl (is_sequence_t hc hd))) rfl)).trans ?_
    refine (seq_no (b_e (op_e (cb_e rfl (hd.len h)) rfl (by rw [dGt_i, decide_eq_false (by rw [List.length_map]; omega)])))).trans ?_
    refine (seq_set (d := .ref h.length) (h1 := h ++ [.lst []]) rfl).trans ?_
    refine (seq_set (d := .ref (h.length + 1)) (h1 := h ++ [.lst [], .lst (mvD (List.replicate n 0))]) ?_).trans ?_
    · have := aRep_0 (a := aVar 1) (δ := [some d, some (.int n), some (.ref h.length), none, none, none, none, none]) (h := h ++ [.lst []]) (k := n) rfl (by omega)
      rw [List.append_assoc, List.length_append] at this
      exact this
    refine (seq_nxt ((sFor_en (h1 := h ++ [.lst [], .lst (mvD (List.replicate n 0))]) rfl hd).trans e)).trans ?_
    refine ret_e (cb_e rfl (dTuple_ref (xs := ps.map pD) ?_))
    rw [g1]
    have : (enD (ps.map q)).length = ps.length := by
      unfold enD
      simp
    rw [this, List.take_length]
  · have hk := take_push (h := h) (l := [Cell.lst ((ps.take (enD (ps.map q)).length).map pD), .lst (mvD ms)]) (k := h.length) rfl
    have := fin_val (n := h.length) (h := h ++ [.lst ((ps.take (enD (ps.map q)).length).map pD), .lst (mvD ms)]) (d := .tup (ps.map pD)) (by rw [hk]; exact hc) (clo_pD ps)
    rw [hk] at this
    exact this
end
end Mr
namespace Mr
open PySem PySem.Spec PyProof.Rows L2 Aq
def lineFs : List Str := ["_tasks", "_order", "_models", "_states", "_start", "_slips"]
def LineV.vs (L : LineV) : List D := [.tup (L.jobs.map pD), .tup (L.pairs.map pD), .tup (L.kinds.map kindD), .tup (L.states.map arcD), .int L.start, optD L.left]
/-- the Line of these data -/
def LineV.o (L : LineV) : D := .obj "Line" lineFs L.vs
theorem LineV.vs_clo (L : LineV) : cloL 0 L.vs = true := L.clo
/-- what is handed over for these data -/
structure Args (L : LineV) (t o m st : D) : Prop where
  t : ∃ q : P2 → D, SQ t (L.jobs.map q) ∧ ∀ p ∈ L.jobs, PQ (q p) p
  o : ∃ q : P2 → D, SQ o (L.pairs.map q) ∧ ∀ p ∈ L.pairs, PQ (q p) p
  m : ∃ q : List Int → D, SQ m (L.kinds.map q) ∧ ∀ z ∈ L.kinds, SQ (q z) (z.map D.int)
  st : ∃ (Q : List P2 → D) (q : P2 → D), SQ st (L.states.map Q) ∧ (∀ ps ∈ L.states, SQ (Q ps) (ps.map q)) ∧ ∀ p, PQ (q p) p
section
variable {h : AH} {d : D} {xs : List D} {δ δ' : AEnv} {i j : Int}
theorem fld_e {cs : List Str} {f c : Str} {o v : AEx} {n : Nat} {fs fs' : List Str} {ds ds' : List D} {y : D} (hv : v δ h = .ok y h) (ho : o δ h = .ok (.ref n) h) (hn : h[n]? = some (.ins c fs ds)) (hc : c ∈ cs) (hl : fs.length < 900) (e1 : ptF f fs = fs') (e2 : ptD f y fs ds = ds') : sFldA cs f o v δ h = .nx δ (h.set n (.ins c fs' ds')) := by
  unfold sFldA
  rw [hv, R.thn_ok, ho, R.thn_ok]
  show (match h[n]? with
    | some (.ins c fs ds) => if c ∈ cs ∧ fs.length < 900 then RS.nx δ (h.set n (.ins c (ptF f fs) (ptD f y fs ds))) else .bad
    | _ => .bad) = _
  rw [hn]
  show (if c ∈ cs ∧ fs.length < 900 then RS.nx δ (h.set n (.ins c (ptF f fs) (ptD f y fs ds))) else .bad) = _
  rw [if_pos ⟨hc, hl⟩, e1, e2]
theorem seq_fld {cs : List Str} {f c : Str} {o v : AEx} {fs fs' : List Str} {ds ds' : List D} {y : D} {u : ASt} (hv : v δ (h ++ [.ins c fs ds]) = .ok y (h ++ [.ins c fs ds])) (ho : o δ (h ++ [.ins c fs ds]) = .ok (.ref h.length) (h ++ [.ins c fs ds])) (hc : c ∈ cs) (hl : fs.length < 900) (e1 : ptF f fs = fs') (e2 : ptD f y fs ds = ds') : sSeq (sFldA cs f o v) u δ (h ++ [.ins c fs ds]) = u δ (h ++ [.ins c fs' ds']) := by
  refine seq_nxt ?_
  rw [fld_e hv ho (get_push rfl) hc hl e1 e2, set_push rfl]
/-- the Line's making -/
theorem init_t {L : LineV} {t o m st : D} (hc : HC h) (ok : L.Ok) (a : Args L t o m st) : A_Line___init__ [.ref h.length, t, o, m, st, .int L.start, optD L.left] (h ++ [.ins "Line" [] []]) = .ok .non (h ++ [.ins "Line" lineFs L.vs]) := by
  obtain ⟨qt, ht, ht2⟩ := a.t
  obtain ⟨qo, ho, ho2⟩ := a.o
  obtain ⟨qm, hm, hm2⟩ := a.m
  obtain ⟨Q, qs, hs, hs2, hs3⟩ := a.st
  obtain ⟨rk, hrk⟩ := ok.pr
  have hc0 : HC (h ++ [.ins "Line" [] []]) := hc.push rfl
  unfold A_Line___init__
  refine Eq.trans (runB_nx (h' := h ++ [.ins "Line" lineFs L.vs]) (δ := [some (.ref h.length), some t, some o, some m, some st, some (.int L.start), some (optD L.left), some (.tup (L.jobs.map pD)), some (.tup (L.pairs.map pD)), some (.tup (L.kinds.map kindD)), some (.tup (L.states.map arcD))]) rfl ?_) (fin_len (by rw [List.length_append, List.length_append]; rfl) (hc.push (c := .ins "Line" lineFs L.vs) L.vs_clo) rfl)
  refine (seq_set (call_e rfl (checked_tasks_t hc0 ht ht2 ok.j0 ok.j1 ok.jb))).trans ?_
  refine (seq_set (call_e (cons_e rfl (cons_e (cb_e rfl (by rw [dLen_tup, List.length_map])) rfl)) (checked_order_t hc0 ho ho2 hrk (by have := ok.p1; omega) ok.j1))).trans ?_
  refine (seq_set (call_e (cons_e rfl (cons_e (cb_e rfl (by rw [dLen_tup, List.length_map])) rfl)) (checked_models_t hc0 hm hm2 ok.k0 ok.k1 ok.kd))).trans ?_
  refine (seq_set (call_e (cons_e rfl (cons_e (cb_e rfl (by rw [dLen_tup, List.length_map])) rfl)) (checked_states_t hc0 hs hs2 hs3 ok.s0 ok.s1 ok.st))).trans ?_
  refine (seq_no (not_e (k := true) (b_e (call_e (cons_e rfl (cons_e rfl (cons_e (op_e (cb_e rfl (by rw [dLen_tup, List.length_map])) rfl rfl) rfl))) (by
    rw [is_within_t hc0, decide_eq_true]
    have h1 := ok.t0
    have h2 := ok.t1
    exact ⟨h1, by omega⟩))) rfl)).trans ?_
  refine (seq_no (not_e (k := true) (b_e (call_e rfl (is_slips_t hc0 ok.lf))) rfl)).trans ?_
  refine (seq_fld rfl rfl (by decide) (by decide) rfl rfl).trans ?_
  refine (seq_fld rfl rfl (by decide) (by decide) rfl rfl).trans ?_
  refine (seq_fld rfl rfl (by decide) (by decide) rfl rfl).trans ?_
  refine (seq_fld rfl rfl (by decide) (by decide) rfl rfl).trans ?_
  refine (seq_fld rfl rfl (by decide) (by decide) rfl rfl).trans ?_
  rw [fld_e rfl rfl (get_push rfl) (by decide) (by decide) rfl rfl, set_push rfl]
  rfl
theorem make_e {c : Str} {f : AF} {n m : Nat} {t tk : AAs} {ds zs : List D} {fs : List Str} {vs : List D} (hc : HC h) (e1 : t δ h = .ok ds h) (e2 : tk δ h = .ok zs h) (l1 : ds.length = n) (l2 : zs.length = m) (e : f (.ref h.length :: (ds ++ zs)) (h ++ [.ins c [] []]) = .ok .non (h ++ [.ins c fs vs])) (hv : cloL 0 vs = true) : aMake false c f n m t tk δ h = .ok (.obj c fs vs) h := by
  unfold aMake
  rw [e1, Mr.R.bind_ok, e2, Mr.R.bind_ok, if_pos ⟨l1, l2⟩, e, Mr.R.bind_ok]
  show fin false h.length (.ref h.length) (h ++ [.ins c fs vs]) = _
  have ef : frz h.length (.ref h.length) (h ++ [.ins c fs vs]) = .obj c fs vs := by
    show (if h.length < h.length then D.ref h.length else (match (h ++ [Cell.ins c fs vs])[h.length]? with
      | some (.lst ds) => .vl ds
      | some (.ins c fs ds) => .obj c fs ds
      | _ => .ref h.length)) = _
    rw [if_neg (Nat.lt_irrefl _), get_push rfl]
  unfold fin
  rw [if_neg (by decide), take_push rfl, if_pos ⟨hc.all _, by rw [ef]; exact clol_mono (ds := vs) hv⟩, ef]
/-- data loosened -/
theorem lo_pair (b : Bool) (p : P2) : PQ (lo b (pD p)) p := by
  cases b
  · exact .inl rfl
  · exact .inr rfl
theorem lo_ints (b : Bool) (z : List Int) : SQ (lo b (kindD z)) (z.map D.int) := by
  have e : loL (!b) (z.map D.int) = z.map D.int := by
    rw [loL_map, List.map_map]
    rfl
  cases b
  · exact .inl (by show D.tup (loL (!false) (z.map D.int)) = _; rw [e])
  · exact .inr (by show D.vl (loL (!true) (z.map D.int)) = _; rw [e])
theorem lo_sq (b : Bool) {α : Type} (f : α → D) (l : List α) : SQ (lo b (.tup (l.map f))) (l.map fun x => lo (!b) (f x)) := by
  have e : loL (!b) (l.map f) = l.map fun x => lo (!b) (f x) := by
    rw [loL_map, List.map_map]
    rfl
  cases b
  · exact .inl (by show D.tup (loL (!false) (l.map f)) = _; rw [e])
  · exact .inr (by show D.vl (loL (!true) (l.map f)) = _; rw [e])
theorem args_lo (L : LineV) (b1 b2 b3 b4 : Bool) : Args L (lo b1 (.tup (L.jobs.map pD))) (lo b2 (.tup (L.pairs.map pD))) (lo b3 (.tup (L.kinds.map kindD))) (lo b4 (.tup (L.states.map arcD))) where
  t := ⟨_, lo_sq b1 pD L.jobs, fun p _ => lo_pair _ p⟩
  o := ⟨_, lo_sq b2 pD L.pairs, fun p _ => lo_pair _ p⟩
  m := ⟨_, lo_sq b3 kindD L.kinds, fun z _ => lo_ints _ z⟩
  st := ⟨_, _, lo_sq b4 arcD L.states, fun ps _ => lo_sq (!b4) pD ps, fun p => lo_pair _ p⟩
theorem args_tup (L : LineV) : Args L (.tup (L.jobs.map pD)) (.tup (L.pairs.map pD)) (.tup (L.kinds.map kindD)) (.tup (L.states.map arcD)) where
  t := ⟨_, .inl rfl, fun p _ => .inl rfl⟩
  o := ⟨_, .inl rfl, fun p _ => .inl rfl⟩
  m := ⟨kindD, .inl rfl, fun z _ => .inl rfl⟩
  st := ⟨arcD, pD, .inl rfl, fun ps _ => .inl rfl, fun p => .inl rfl⟩
/-! plain data of small depth -/
theorem pln_all {xs : List D} (hx : ∀ x ∈ xs, pln x = true) : plnL xs = true := by
  induction xs with
  | nil => rfl
  | cons x xs ih => exact Bool.and_eq_true_iff.mpr ⟨hx x List.mem_cons_self, ih fun y m => hx y (List.mem_cons_of_mem _ m)⟩
theorem dep_all {xs : List D} {k : Nat} (hx : ∀ x ∈ xs, dep x ≤ k) : depL xs ≤ k := by
  induction xs with
  | nil => exact Nat.zero_le _
  | cons x xs ih =>
    show max (dep x) (depL xs) ≤ k
    have h1 := hx x List.mem_cons_self
    have h2 := ih fun y m => hx y (List.mem_cons_of_mem _ m)
    omega
theorem pln_tup {xs : List D} (hl : xs.length ≤ 1000) (hx : ∀ x ∈ xs, pln x = true) : pln (.tup xs) = true := Bool.and_eq_true_iff.mpr ⟨decide_eq_true hl, pln_all hx⟩
theorem dep_tup {xs : List D} {k : Nat} (hx : ∀ x ∈ xs, dep x ≤ k) : dep (.tup xs) ≤ k + 1 := Nat.succ_le_succ (dep_all hx)
theorem pln_pairs {ps : List P2} (hl : ps.length ≤ 1000) : pln (.tup (ps.map pD)) = true := pln_tup (by rw [List.length_map]; exact hl) fun x m => by
  obtain ⟨p, _, rfl⟩ := List.mem_map.mp m
  rfl
theorem dep_pairs (ps : List P2) : dep (.tup (ps.map pD)) ≤ 2 := dep_tup fun x m => by
  obtain ⟨p, _, rfl⟩ := List.mem_map.mp m
  exact Nat.le_refl 1
theorem pln_kind {z : List Int} (hl : z.length ≤ 1000) : pln (kindD z) = true := pln_tup (by rw [List.length_map]; exact hl) fun x m => by
  obtain ⟨p, _, rfl⟩ := List.mem_map.mp m
  rfl
theorem dep_kind (z : List Int) : dep (kindD z) ≤ 1 := dep_tup (k := 0) fun x m => by
  obtain ⟨p, _, rfl⟩ := List.mem_map.mp m
  exact Nat.le_refl 0
theorem asc_len {count : Int} {z : List Int} (ha : Asc count z) (h0 : 0 ≤ count) : (z.length : Int) ≤ count := by
  have key : ∀ (z : List Int) (lo : Int), z.Pairwise (· < ·) → (∀ x ∈ z, lo ≤ x ∧ x < count) → lo ≤ count → (z.length : Int) ≤ count - lo := by
    intro z
    induction z with
    | nil => intro lo _ _ h; simp; omega
    | cons x z ih =>
      intro lo hp hx hl
      have h1 := hx x List.mem_cons_self
      have hp' := List.pairwise_cons.mp hp
      have := ih (x + 1) hp'.2 (fun y m => ⟨by have := hp'.1 y m; omega, (hx y (List.mem_cons_of_mem _ m)).2⟩) (by omega)
      rw [List.length_cons]
      omega
  have := key z 0 ha.1 ha.2 h0
  omega
theorem made_t {L : LineV} {turn : Int} (hc : HC h) (ok : L.Ok) : A__law_made [L.d, .int turn] h = .ok L.o h := by
  have hkl : ∀ z ∈ L.kinds, z.length ≤ 1000 := fun z m => by
    have := asc_len (ok.kd z m) (by omega)
    have := ok.j1
    omega
  have p1 : pln (.tup (L.jobs.map pD)) = true := pln_pairs (by have := ok.j1; omega)
  have p2 : pln (.tup (L.pairs.map pD)) = true := pln_pairs (by have := ok.p1; omega)
  have p3 : pln (.tup (L.kinds.map kindD)) = true := pln_tup (by rw [List.length_map]; have := ok.k1; omega) fun x m => by
    obtain ⟨z, hz, rfl⟩ := List.mem_map.mp m
    exact pln_kind (hkl z hz)
  have p4 : pln (.tup (L.states.map arcD)) = true := pln_tup (by rw [List.length_map]; have := ok.s1; omega) fun x m => by
    obtain ⟨z, hz, rfl⟩ := List.mem_map.mp m
    exact pln_pairs (by have := (ok.st z hz).2; omega)
  have d1 := dep_pairs L.jobs
  have d2 := dep_pairs L.pairs
  have d3 : dep (.tup (L.kinds.map kindD)) ≤ 2 := dep_tup fun x m => by
    obtain ⟨z, hz, rfl⟩ := List.mem_map.mp m
    exact dep_kind z
  have d4 : dep (.tup (L.states.map arcD)) ≤ 3 := dep_tup fun x m => by
    obtain ⟨z, hz, rfl⟩ := List.mem_map.mp m
    exact dep_pairs z
  unfold A__law_made
  refine Eq.trans (runB_rt (h' := h) (d := L.o) rfl ?_) (fin_same hc L.vs_clo)
  refine (seq_set (call_e (cons_e (op_e rfl rfl (dIx_tup (by decide) rfl)) rfl) (loose_e hc 4 _ turn (by omega) p1))).trans ?_
  refine ret_e (make_e hc (cons_e rfl (cons_e (call_e (cons_e (op_e rfl rfl (dIx_tup (by decide) rfl)) (cons_e (op_e rfl rfl rfl) rfl)) (loose_e hc 4 _ (turn + 1) (by omega) p2)) (cons_e (call_e (cons_e (op_e rfl rfl (dIx_tup (by decide) rfl)) rfl) (loose_e hc 4 _ turn (by omega) p3)) (cons_e (call_e (cons_e (op_e rfl rfl (dIx_tup (by decide) rfl)) rfl) (loose_e hc 4 _ turn (by omega) p4)) (cons_e (op_e rfl rfl (dIx_tup (by decide) rfl)) rfl))))) (cons_e (op_e rfl rfl (dIx_tup (by decide) rfl)) rfl) rfl rfl (init_t hc ok (args_lo L _ _ _ _)) L.vs_clo)
end
end Mr
/-! where the program refuses -/
namespace Mr
open PySem PySem.Spec PyProof.Rows L2 Aq
section
variable {h : AH} {d : D} {xs : List D} {δ δ' : AEnv} {i j : Int} {c : Str} {x : D}
/-- a loop that lets an error out at its k-th item -/
theorem for_er {s : Src} {g : ATg} {b : ASt} (hs : s.at_ = []) (I : Nat → AEnv → AH → Prop) (J : AH → Prop) : ∀ (n k : Nat) (items : List D) {δ : AEnv} {h : AH}, I n δ h → (∀ i d δ h, i < k → items[i]? = some d → I (n + i) δ h → ∃ δ1 h1 δ2 h2, g d δ h = .ok δ1 h1 ∧ (b δ1 h1 = .nx δ2 h2 ∨ b δ1 h1 = .ct δ2 h2) ∧ I (n + i + 1) δ2 h2) →
    (∃ d, items[k]? = some d ∧ ∀ δ h, I (n + k) δ h → ∃ δ1 h1 δ2 h2, g d δ h = .ok δ1 h1 ∧ b δ1 h1 = .er c x δ2 h2 ∧ J h2) → ∃ δ2 h2, forL s g b items δ h = .er c x δ2 h2 ∧ J h2
  | n, k, [], δ, h, _, _, bad => by
    obtain ⟨d, hd, _⟩ := bad
    cases hd
  | n, k, d :: ds, δ, h, h0, step, bad => by
    have ok : s.ok h := fun p m => by
      rw [hs] at m
      cases m
    have ee : ∀ δ1 h1, g d δ h = .ok δ1 h1 → forL s g b (d :: ds) δ h = match b δ1 h1 with
      | .nx δ2 h2 => forL s g b ds δ2 h2
      | .ct δ2 h2 => forL s g b ds δ2 h2
      | .bk δ2 h2 => .nx δ2 h2
      | r => r := fun δ1 h1 e => by
      rw [forL, if_pos ok, e] <;> rfl
    cases k with
    | zero =>
      obtain ⟨d', hd, hb⟩ := bad
      cases hd
      obtain ⟨δ1, h1, δ2, h2, e1, e2, hJ⟩ := hb δ h h0
      exact ⟨δ2, h2, by rw [ee _ _ e1, e2], hJ⟩
    | succ k =>
      obtain ⟨δ1, h1, δ2, h2, e1, e2, h3⟩ := step 0 d δ h (Nat.succ_pos k) rfl h0
      obtain ⟨δ3, h4, e, hJ⟩ := for_er hs I J (n + 1) k ds (δ := δ2) (h := h2) h3 (fun i z δ h hi hz hI => by
        have := step (i + 1) z δ h (by omega) hz (by rwa [show n + (i + 1) = n + 1 + i by omega])
        rwa [show n + (i + 1) = n + 1 + i by omega] at this) (by
        obtain ⟨d', hd, hb⟩ := bad
        exact ⟨d', hd, fun δ h hI => hb δ h (by rwa [show n + (k + 1) = n + 1 + k by omega])⟩)
      refine ⟨δ3, h4, ?_, hJ⟩
      rw [ee _ _ e1]
      rcases e2 with q | q <;> rw [q] <;> exact e
theorem er_fin {np N : Nat} {b : ASt} {ds : List D} {h' : AH} (hl : ds.length = np) (e : b (startA N ds) h = .er c x δ h') (hk : HC (h'.take h.length)) (hx : x.clo 0 = true) : runB false np N b ds h = .er c x (h'.take h.length) := by
  rw [runB_er hl e]
  exact finE_val hk hx
/-- .. the heap as it was -/
theorem er_same {np N : Nat} {b : ASt} {ds : List D} (hl : ds.length = np) (e : b (startA N ds) h = .er c x δ h) (hc : HC h) (hx : x.clo 0 = true) : runB false np N b ds h = .er c x h := by
  have := er_fin hl e (hc.take _) hx
  rwa [List.take_length] at this
theorem er_ex {np N : Nat} {b : ASt} {ds : List D} (hl : ds.length = np) (e : ∃ δ, b (startA N ds) h = .er c x δ h) (hc : HC h) (hx : x.clo 0 = true) : runB false np N b ds h = .er c x h := by
  obtain ⟨δ, e⟩ := e
  exact er_same hl e hc hx
theorem raise_e {a : AEx} (e : a δ h = .ok x h) : sRaise c a δ h = .er c x δ h := by
  rw [sRaise_e, e]
  rfl
theorem call_er {f : AF} {t : AAs} {ds : List D} {h1 h2 : AH} (e : t δ h = .ok ds h1) (k : f ds h1 = .er c x h2) : aCall f t δ h = .er c x h2 := call_e e k
theorem set_er {a : AEx} {u : ASt} {n : Nat} {h2 : AH} (e : a δ h = .er c x h2) : sSeq (sSet n a) u δ h = .er c x δ h2 := by
  rw [sSeq_e, sSet_e, e]
  rfl
theorem ret_er {a : AEx} {h2 : AH} (e : a δ h = .er c x h2) : sRet a δ h = .er c x δ h2 := by
  rw [sRet_e, e]
  rfl
theorem exp_er {a : AEx} {h2 : AH} (e : a δ h = .er c x h2) : sExp a δ h = .er c x δ h2 := by
  rw [sExp_e, e]
  rfl
theorem seq_yes {q : ATs} {s u : ASt} {h1 : AH} {h2 : AH} (e : q δ h = .ok true h1) (k : s δ h1 = .er c x δ' h2) : sSeq (sIf q s sNil) u δ h = .er c x δ' h2 := seq_err ((if_t e).trans k)
theorem make_er {f : AF} {n m : Nat} {t tk : AAs} {ds zs : List D} {cn : Str} {h2 : AH} (e1 : t δ h = .ok ds h) (e2 : tk δ h = .ok zs h) (l1 : ds.length = n) (l2 : zs.length = m) (e : f (.ref h.length :: (ds ++ zs)) (h ++ [.ins cn [] []]) = .er c x h2) : aMake false cn f n m t tk δ h = .er c x h2 := by
  unfold aMake
  rw [e1, R.bind_ok, e2, R.bind_ok, if_pos ⟨l1, l2⟩, e]
  rfl
/-! values that are none of what is asked -/
theorem is_sequence_f {S : String} (hc : HC h) (ht : tyD h d = some S) (h1 : kitB S "list" = some false) (h2 : kitB S "tuple" = some false) : A_is_sequence [d] h = .ok (.bl false) h := by
  unfold A_is_sequence
  refine Eq.trans (runB_rt (h' := h) (d := .bl false) rfl (ret_e ?_)) (fin_same hc rfl)
  rw [isi2_e rfl ht h1 h2]
  rfl
theorem has_length_f {S : String} {a b : Int} (hc : HC h) (ht : tyD h d = some S) (h1 : kitB S "list" = some false) (h2 : kitB S "tuple" = some false) : A_has_length [d, .int a, .int b] h = .ok (.bl false) h := by
  unfold A_has_length
  refine Eq.trans (runB_rt (h' := h) (d := .bl false) rfl (ret_e ?_)) (fin_same hc rfl)
  exact andV_f (call_e rfl (is_sequence_f hc ht h1 h2))
theorem is_integer_f {S : String} (hc : HC h) (ht : tyD h d = some S) (h1 : kitB S "int" = some false) : A_is_integer [d] h = .ok (.bl false) h := by
  unfold A_is_integer
  refine Eq.trans (runB_rt (h' := h) (d := .bl false) rfl (ret_e ?_)) (fin_same hc rfl)
  exact andV_f (isi_e rfl ht h1)
theorem is_integer_b {k : Bool} (hc : HC h) : A_is_integer [.bl k] h = .ok (.bl false) h := by
  unfold A_is_integer
  refine Eq.trans (runB_rt (h' := h) (d := .bl false) rfl (ret_e ?_)) (fin_same hc rfl)
  refine andV_t (isi_e (S := "bool") rfl rfl (by kernel_rfl)) ?_
  rw [aNotV_e, isi_e (S := "bool") (k := true) rfl rfl (by kernel_rfl)]
  rfl
theorem is_within_f {a b : D} (hc : HC h) (e : A_is_integer [d] h = .ok (.bl false) h) : A_is_within [d, a, b] h = .ok (.bl false) h := by
  unfold A_is_within
  refine Eq.trans (runB_rt (h' := h) (d := .bl false) rfl (ret_e ?_)) (fin_same hc rfl)
  exact andV_f (call_e rfl e)
theorem int_str (hc : HC h) {s : Str} : A_is_integer [.str s] h = .ok (.bl false) h := is_integer_f (S := "str") hc rfl (by kernel_rfl)
theorem int_tup (hc : HC h) {s : List D} : A_is_integer [.tup s] h = .ok (.bl false) h := is_integer_f (S := "tuple") hc rfl (by kernel_rfl)
theorem int_non (hc : HC h) : A_is_integer [.non] h = .ok (.bl false) h := is_integer_f (S := "NoneType") hc rfl (by kernel_rfl)
/-- what is_slips is asked of -/
theorem is_slips_f {k : Bool} (hc : HC h) (hn : isNon d = false) (e : A_is_within [d, .int 0, .int 8] h = .ok (.bl k) h) : A_is_slips [d] h = .ok (.bl k) h := by
  unfold A_is_slips
  refine Eq.trans (runB_rt (h' := h) (d := .bl k) rfl (ret_e ?_)) (fin_same hc rfl)
  exact orV_f (op_e rfl rfl (by rw [dIs_e, hn]; rfl)) (call_e rfl e)
theorem with_slips_er {y : D} (hc : HC h) (e : A_is_slips [d] h = .ok (.bl false) h) : A_with_slips [y, d] h = .er "BadValue" (.int 2) h := by
  unfold A_with_slips
  exact er_same rfl (seq_yes (not_e (k := false) (b_e (call_e rfl e)) rfl) (raise_e rfl)) hc rfl
end
end Mr
/-! the Line refused -/
namespace Mr
open PySem PySem.Spec PyProof.Rows L2 Aq
section
variable {h : AH} {d : D} {xs : List D} {δ δ' : AEnv} {i j : Int} {c : Str} {x : D}
/-- tasks, the one at k is none -/
theorem checked_tasks_er {js : List P2} {q : P2 → D} {ts : List D} {k : Nat} (hc : HC h) (hd : SQ d ts) (j1 : ts.length ≤ 24) (hk : k < ts.length) (pre : ∀ i y, i < k → ts[i]? = some y → ∃ p : P2, PQ y p ∧ 0 ≤ p.1 ∧ p.1 ≤ p.2 ∧ p.2 ≤ 10000)
    (hb : ∀ y, ts[k]? = some y → A_is_task [y] h = .ok (.bl false) h) : A_checked_tasks [d] h = .er "BadTask" (.int k) h := by
  unfold A_checked_tasks
  obtain ⟨δ2, h2, e, e2⟩ := for_er (c := "BadTask") (x := .int k) (s := ⟨enD ts, []⟩) (g := gUn 2 (gConsA (gNam 1) (gConsA (gNam 2) gNilA))) (b := L1_checked_tasks) rfl (fun _ δ hh => hh = h ∧ ∃ x y, δ = [some d, x, y]) (fun hh => hh = h) 0 k (enD ts) (δ := startA 3 [d]) (h := h) ⟨rfl, none, none, rfl⟩ (fun i z δ hh hi hz ⟨e1, x, y, e⟩ => by
    have e1' := e1.symm
    subst e1' e
    obtain ⟨v, hv, rfl⟩ := en_get hz
    obtain ⟨p, hp, h0⟩ := pre i v hi hv
    refine ⟨[some d, some (.int i), some v], h, [some d, some (.int i), some v], h, rfl, .inl ?_, rfl, _, _, rfl⟩
    unfold L1_checked_tasks
    exact if_f (not_e (k := true) (b_e (call_e rfl (is_task_t hc hp h0))) rfl)) (by
    refine ⟨.tup [.int (k : Nat), ts[k]], ?_, fun δ hh ⟨e1, x, y, e⟩ => ?_⟩
    · unfold enD
      rw [List.getElem?_zipWith, List.getElem?_range hk, List.getElem?_eq_getElem hk]
    · have e1' := e1.symm
      subst e1' e
      refine ⟨[some d, some (.int k), some ts[k]], h, [some d, some (.int k), some ts[k]], h, rfl, ?_, rfl⟩
      unfold L1_checked_tasks
      exact (if_t (not_e (k := false) (b_e (call_e rfl (hb _ (List.getElem?_eq_getElem hk)))) rfl)).trans (raise_e rfl))
  rw [e2] at e
  refine er_same rfl (δ := δ2) ?_ hc rfl
  refine (seq_no (or_f (not_e (k := true) (b_e (call_e rfl (is_sequence_t hc hd))) rfl) (b_e (op_e (cb_e rfl (hd.len h)) rfl (by rw [dEq_i, decide_eq_false (by omega)]; rfl))))).trans ?_
  refine (seq_no (b_e (op_e (cb_e rfl (hd.len h)) rfl (by rw [dGt_i, decide_eq_false (by omega)])))).trans ?_
  exact seq_err ((sFor_en rfl hd).trans e)
theorem checked_models_er {count : Int} {ks : List (List Int)} {q : List Int → D} {ts : List D} {k : Nat} (hc : HC h) (hd : SQ d ts) (k1 : ts.length ≤ 8) (hk : k < ts.length) (pre : ∀ i y, i < k → ts[i]? = some y → ∃ z : List Int, SQ y (z.map D.int) ∧ Asc count z)
    (hb : ∀ y, ts[k]? = some y → A_is_ascending [y, .int count] h = .ok (.bl false) h) : A_checked_models [d, .int count] h = .er "BadModel" (.int k) h := by
  unfold A_checked_models
  obtain ⟨δ2, h2, e, e2⟩ := for_er (c := "BadModel") (x := .int k) (s := ⟨enD ts, []⟩) (g := gUn 2 (gConsA (gNam 2) (gConsA (gNam 3) gNilA))) (b := L1_checked_models) rfl (fun _ δ hh => hh = h ∧ ∃ x y, δ = [some d, some (.int count), x, y]) (fun hh => hh = h) 0 k (enD ts) (δ := startA 4 [d, .int count]) (h := h) ⟨rfl, none, none, rfl⟩ (fun i z δ hh hi hz ⟨e1, x, y, e⟩ => by
    have e1' := e1.symm
    subst e1' e
    obtain ⟨v, hv, rfl⟩ := en_get hz
    obtain ⟨p, hp, h0⟩ := pre i v hi hv
    refine ⟨[some d, some (.int count), some (.int i), some v], h, [some d, some (.int count), some (.int i), some v], h, rfl, .inl ?_, rfl, _, _, rfl⟩
    unfold L1_checked_models
    exact if_f (not_e (k := true) (b_e (call_e rfl (is_ascending_t hc hp h0))) rfl)) (by
    refine ⟨.tup [.int (k : Nat), ts[k]], ?_, fun δ hh ⟨e1, x, y, e⟩ => ?_⟩
    · unfold enD
      rw [List.getElem?_zipWith, List.getElem?_range hk, List.getElem?_eq_getElem hk]
    · have e1' := e1.symm
      subst e1' e
      refine ⟨[some d, some (.int count), some (.int k), some ts[k]], h, [some d, some (.int count), some (.int k), some ts[k]], h, rfl, ?_, rfl⟩
      unfold L1_checked_models
      exact (if_t (not_e (k := false) (b_e (call_e rfl (hb _ (List.getElem?_eq_getElem hk)))) rfl)).trans (raise_e rfl))
  rw [e2] at e
  refine er_same rfl (δ := δ2) ?_ hc rfl
  refine (seq_no (or_f (not_e (k := true) (b_e (call_e rfl (is_sequence_t hc hd))) rfl) (b_e (op_e (cb_e rfl (hd.len h)) rfl (by rw [dEq_i, decide_eq_false (by omega)]; rfl))))).trans ?_
  refine (seq_no (b_e (op_e (cb_e rfl (hd.len h)) rfl (by rw [dGt_i, decide_eq_false (by omega)])))).trans ?_
  exact seq_err ((sFor_en rfl hd).trans e)
/-! Line(..) where a part is refused -/
theorem init_tasks {k : Nat} {t o m st s0 sl : D} (hc : HC h) (e : ∀ hh, HC hh → A_checked_tasks [t] hh = .er c x hh) (hx : x.clo 0 = true) : A_Line___init__ [.ref h.length, t, o, m, st, s0, sl] (h ++ [.ins "Line" [] []]) = .er c x (h ++ [.ins "Line" [] []]) := by
  have hc0 : HC (h ++ [.ins "Line" [] []]) := hc.push rfl
  unfold A_Line___init__
  exact er_same rfl (set_er (call_er rfl (e _ hc0))) hc0 hx
theorem init_order {L : LineV} {t o m st s0 sl : D} (hc : HC h) (ok : L.Ok) (at_ : ∃ q : P2 → D, SQ t (L.jobs.map q) ∧ ∀ p ∈ L.jobs, PQ (q p) p) (e : ∀ hh, HC hh → A_checked_order [o, .int L.jobs.length] hh = .er c x hh) (hx : x.clo 0 = true) : A_Line___init__ [.ref h.length, t, o, m, st, s0, sl] (h ++ [.ins "Line" [] []]) = .er c x (h ++ [.ins "Line" [] []]) := by
  have hc0 : HC (h ++ [.ins "Line" [] []]) := hc.push rfl
  obtain ⟨qt, ht, ht2⟩ := at_
  unfold A_Line___init__
  exact er_ex rfl ⟨_, Eq.trans (seq_set (call_e rfl (checked_tasks_t hc0 ht ht2 ok.j0 ok.j1 ok.jb))) (set_er (call_er (cons_e rfl (cons_e (cb_e rfl (by rw [dLen_tup, List.length_map])) rfl)) (e _ hc0)))⟩ hc0 hx
theorem init_models {L : LineV} {t o m st s0 sl : D} (hc : HC h) (ok : L.Ok) (at_ : ∃ q : P2 → D, SQ t (L.jobs.map q) ∧ ∀ p ∈ L.jobs, PQ (q p) p) (ao : ∃ q : P2 → D, SQ o (L.pairs.map q) ∧ ∀ p ∈ L.pairs, PQ (q p) p) (e : ∀ hh, HC hh → A_checked_models [m, .int L.jobs.length] hh = .er c x hh) (hx : x.clo 0 = true) : A_Line___init__ [.ref h.length, t, o, m, st, s0, sl] (h ++ [.ins "Line" [] []]) = .er c x (h ++ [.ins "Line" [] []]) := by
  have hc0 : HC (h ++ [.ins "Line" [] []]) := hc.push rfl
  obtain ⟨qt, ht, ht2⟩ := at_
  obtain ⟨qo, ho, ho2⟩ := ao
  obtain ⟨rk, hrk⟩ := ok.pr
  unfold A_Line___init__
  exact er_ex rfl ⟨_, Eq.trans (seq_set (call_e rfl (checked_tasks_t hc0 ht ht2 ok.j0 ok.j1 ok.jb))) (Eq.trans (seq_set (call_e (cons_e rfl (cons_e (cb_e rfl (by rw [dLen_tup, List.length_map])) rfl)) (checked_order_t hc0 ho ho2 hrk (by have := ok.p1; omega) ok.j1))) (set_er (call_er (cons_e rfl (cons_e (cb_e rfl (by rw [dLen_tup, List.length_map])) rfl)) (e _ hc0))))⟩ hc0 hx
theorem init_slips {L : LineV} {t o m st sl : D} (hc : HC h) (ok : L.Ok) (a : Args L t o m st) (e : ∀ hh, HC hh → A_is_slips [sl] hh = .ok (.bl false) hh) : A_Line___init__ [.ref h.length, t, o, m, st, .int L.start, sl] (h ++ [.ins "Line" [] []]) = .er "BadValue" (.int 6) (h ++ [.ins "Line" [] []]) := by
  obtain ⟨qt, ht, ht2⟩ := a.t
  obtain ⟨qo, ho, ho2⟩ := a.o
  obtain ⟨qm, hm, hm2⟩ := a.m
  obtain ⟨Q, qs, hs, hs2, hs3⟩ := a.st
  obtain ⟨rk, hrk⟩ := ok.pr
  have hc0 : HC (h ++ [.ins "Line" [] []]) := hc.push rfl
  unfold A_Line___init__
  exact er_ex rfl ⟨_, Eq.trans (seq_set (call_e rfl (checked_tasks_t hc0 ht ht2 ok.j0 ok.j1 ok.jb))) (Eq.trans (seq_set (call_e (cons_e rfl (cons_e (cb_e rfl (by rw [dLen_tup, List.length_map])) rfl)) (checked_order_t hc0 ho ho2 hrk (by have := ok.p1; omega) ok.j1))) (Eq.trans (seq_set (call_e (cons_e rfl (cons_e (cb_e rfl (by rw [dLen_tup, List.length_map])) rfl)) (checked_models_t hc0 hm hm2 ok.k0 ok.k1 ok.kd))) (Eq.trans (seq_set (call_e (cons_e rfl (cons_e (cb_e rfl (by rw [dLen_tup, List.length_map])) rfl)) (checked_states_t hc0 hs hs2 hs3 ok.s0 ok.s1 ok.st))) (Eq.trans (seq_no (not_e (k := true) (b_e (call_e (cons_e rfl (cons_e rfl (cons_e (op_e (cb_e rfl (by rw [dLen_tup, List.length_map])) rfl rfl) rfl))) (by
    rw [is_within_t hc0, decide_eq_true]
    have h1 := ok.t0
    have h2 := ok.t1
    exact ⟨h1, by omega⟩))) rfl)) (seq_yes (not_e (k := false) (b_e (call_e rfl (e _ hc0))) rfl) (raise_e rfl))))))⟩ hc0 rfl
/-- the cell of the object that was not made goes -/
theorem er_cut {np N : Nat} {b : ASt} {ds : List D} (hl : ds.length = np) (e : b (startA N ds) h = .er c x δ (h ++ [.ins "Line" [] []])) (hc : HC h) (hx : x.clo 0 = true) : runB false np N b ds h = .er c x h := by
  have := er_fin hl e (by rw [take_push rfl]; exact hc) hx
  rwa [take_push rfl] at this
end
end Mr
/-! the four makers where they refuse -/
namespace Mr
open PySem PySem.Spec PyProof.Rows L2 Aq
section
variable {h : AH} {d : D} {xs : List D} {δ δ' : AEnv} {i j : Int} {c : Str} {x y : D} {L : LineV}
theorem fldo_e {a : AEx} {f : Str} (e : a δ h = .ok L.o h) (hf : lkD f lineFs L.vs = some d) : aFld ["Line"] f a δ h = .ok d h := by
  unfold aFld
  rw [e, R.bind_ok]
  show (if ("Line" : Str) ∈ (["Line"] : List Str) then (match lkD f lineFs L.vs with
    | some d => R.ok d h
    | none => .bad) else .bad) = _
  rw [if_pos (by decide), hf]
theorem with_times_n (hc : HC h) (e : A_is_sequence [d] h = .ok (.bl false) h) : A_with_times [L.o, d] h = .er "BadValue" (.int 2) h := by
  unfold A_with_times
  exact er_ex rfl ⟨_, seq_yes (or_t (not_e (k := false) (b_e (call_e rfl e)) rfl)) (raise_e rfl)⟩ hc rfl
theorem with_times_l (hc : HC h) (q : SQ d xs) (hl : xs.length ≠ L.jobs.length) : A_with_times [L.o, d] h = .er "BadValue" (.int 2) h := by
  unfold A_with_times
  exact er_ex rfl ⟨_, seq_yes (or_f (not_e (k := true) (b_e (call_e rfl (is_sequence_t hc q))) rfl) (b_e (op_e (cb_e rfl (q.len h)) (cb_e (cons_e (fldo_e (L := L) rfl rfl) rfl) (by rw [dLen_tup, List.length_map])) (by
    rw [dEq_i, decide_eq_false (by omega)]
    rfl)))) (raise_e rfl)⟩ hc rfl
theorem with_times_er (hc : HC h) (q : SQ d xs) (hl : xs.length = L.jobs.length) (e : ∀ hh, HC hh → A_checked_tasks [d] hh = .er c x hh) (hx : x.clo 0 = true) : A_with_times [L.o, d] h = .er c x h := by
  unfold A_with_times
  refine er_cut rfl (δ := [some L.o, some d]) ?_ hc hx
  refine (seq_no (or_f (not_e (k := true) (b_e (call_e rfl (is_sequence_t hc q))) rfl) (b_e (op_e (cb_e rfl (q.len h)) (cb_e (cons_e (fldo_e (L := L) rfl rfl) rfl) (by rw [dLen_tup, List.length_map])) (by
    rw [dEq_i, decide_eq_true (by omega)]
    rfl))))).trans ?_
  exact ret_er (make_er (cons_e rfl (cons_e (fldo_e (L := L) rfl rfl) (cons_e (fldo_e (L := L) rfl rfl) (cons_e (fldo_e (L := L) rfl rfl) (cons_e (fldo_e (L := L) rfl rfl) rfl))))) (cons_e (fldo_e (L := L) rfl rfl) rfl) rfl rfl (init_tasks (k := 0) hc e hx))
theorem repeated_er (hc : HC h) (e : A_has_length [d, .int 1, .int 40] h = .ok (.bl false) h ∨ (A_has_length [d, .int 1, .int 40] h = .ok (.bl true) h ∧ A_are_within [d, .int 0, .int (L.kinds.length - 1)] h = .ok (.bl false) h)) : A_repeated [L.o, d] h = .er "BadValue" (.int 2) h := by
  unfold A_repeated
  rcases e with e | ⟨e, e2⟩
  · exact er_ex rfl ⟨_, seq_yes (or_t (not_e (k := false) (b_e (call_e rfl e)) rfl)) (raise_e rfl)⟩ hc rfl
  · exact er_ex rfl ⟨_, seq_yes (or_f (not_e (k := true) (b_e (call_e rfl e)) rfl) (not_e (k := false) (b_e (call_e (cons_e rfl (cons_e rfl (cons_e (op_e (cb_e (cons_e (fldo_e (L := L) rfl rfl) rfl) (by rw [dLen_tup, List.length_map])) rfl rfl) rfl))) e2)) rfl)) (raise_e rfl)⟩ hc rfl
/-- the one state of a free line -/
def freeD (k : Nat) : D := .vl ((rgD 0 k).map fun z => .tup [z, .int 0])
theorem free_state {k : Nat} {t o m sl : D} (hk : k ≤ 1000) : aLc (iRg1 (aCons (aVar 4) aNil)) (gNam 6) aYes (aTup (aCons (aVar 6) (aCons (aC (.int 0)) aNil))) [6] [some t, some o, some m, some sl, some (.int (k : Nat)), none, none] h = .ok (freeD k) h := by
  have e := lc_map (h := h) (ds := rgD 0 k) (i := 6) (δ := wipA [some t, some o, some m, some sl, some (.int (k : Nat)), none, none] [6]) (te := aTup (aCons (aVar 6) (aCons (aC (.int 0)) aNil))) (f := fun z => .tup [z, .int 0]) (by rw [rgD_length]; omega) (fun z _ => rfl)
  exact aLc_rg (n := k) rfl (by omega) (by omega) (by rw [Int.toNat_natCast]; exact e)
theorem free_er {k : Nat} {t o m sl : D} (hc : HC h) (hm : (A_is_sequence [m] h = .ok (.bl true) h ∧ dLen [m] h = .ok (.int k) h) ∨ (A_is_sequence [m] h = .ok (.bl false) h ∧ k = 0)) (hk : k ≤ 1000)
    (e : A_Line___init__ [.ref h.length, t, o, m, .vl [freeD k], .int 0, sl] (h ++ [.ins "Line" [] []]) = .er c x (h ++ [.ins "Line" [] []])) (hx : x.clo 0 = true) : A_free_line [t, o, m, sl] h = .er c x h := by
  unfold A_free_line
  refine er_cut rfl (δ := [some t, some o, some m, some sl, some (.int k), some (freeD k), none]) ?_ hc hx
  have e4 : aIf (aB (aCall A_is_sequence (aCons (aVar 2) aNil))) (aCb dLen (aCons (aVar 2) aNil)) (aC (.int 0)) (startA 7 [t, o, m, sl]) h = .ok (.int k) h := by
    rcases hm with ⟨h1, h2⟩ | ⟨h1, h2⟩
    · exact (aif_t (b_e (call_e rfl h1))).trans (cb_e rfl h2)
    · rw [h2]
      exact (aif_f (b_e (call_e rfl h1))).trans rfl
  refine (seq_set e4).trans ?_
  refine (seq_set (free_state (t := t) (o := o) (m := m) (sl := sl) hk)).trans ?_
  exact ret_er (make_er rfl rfl rfl rfl e)
theorem free_ok {k : Nat} {t o m sl : D} {vs : List D} (hc : HC h) (hm : A_is_sequence [m] h = .ok (.bl true) h ∧ dLen [m] h = .ok (.int k) h) (hk : k ≤ 1000)
    (e : A_Line___init__ [.ref h.length, t, o, m, .vl [freeD k], .int 0, sl] (h ++ [.ins "Line" [] []]) = .ok .non (h ++ [.ins "Line" lineFs vs])) (hv : cloL 0 vs = true) : A_free_line [t, o, m, sl] h = .ok (.obj "Line" lineFs vs) h := by
  unfold A_free_line
  refine Eq.trans (runB_rt (h' := h) (d := .obj "Line" lineFs vs) rfl ?_) (fin_same hc hv)
  refine (seq_set ((aif_t (b_e (call_e rfl hm.1))).trans (cb_e rfl hm.2))).trans ?_
  refine (seq_set (free_state (t := t) (o := o) (m := m) (sl := sl) hk)).trans ?_
  exact ret_e (make_e hc rfl rfl rfl rfl e hv)
/-! the law's try -/
theorem try_er {cs : List Str} {b : ASt} {hs : List HCl} {δ1 : AEnv} {h1 : AH} (e : b δ h = .er c x δ1 h1) (hm : c ∈ cs) : sTry cs b hs δ h = hdlA hs c x δ1 h1 := by
  unfold sTry
  rw [e]
  exact if_pos hm
theorem try_nx {cs : List Str} {b : ASt} {hs : List HCl} {δ1 : AEnv} {h1 : AH} (e : b δ h = .nx δ1 h1) : sTry cs b hs δ h = .nx δ1 h1 := by
  unfold sTry
  rw [e]
theorem hdl_pos {n : Nat} {f : D → D} {hs : List HCl} (hn : n < δ.length) : hdlA ((c, n, f) :: hs) c x δ h = .rt (f x) h := by
  rw [hdlA, if_pos rfl, if_pos hn]
theorem hdl_neg {n : Nat} {c' : Str} {f : D → D} {hs : List HCl} (hc : c ≠ c') : hdlA ((c', n, f) :: hs) c x δ h = hdlA hs c x δ h := by
  rw [hdlA, if_neg hc]
/-- the words of the law -/
def tagD (s : String) (x : D) : D := .tup [.str s, x]
theorem fault_er {k : Int} {a b e4 e5 : D} {w : String} (hc : HC h) (hx : x.clo 0 = true)
    (hw : (c = "BadValue" ∧ w = "value") ∨ (c = "BadTask" ∧ w = "task") ∨ (c = "BadPair" ∧ w = "pair") ∨ (c = "BadModel" ∧ w = "model"))
    (e : (k = 0 ∧ A_with_slips [a, b] h = .er c x h) ∨ (k = 1 ∧ A_with_times [a, b] h = .er c x h) ∨ (k = 2 ∧ A_repeated [a, b] h = .er c x h) ∨ (k = 3 ∧ A_free_line [a, b, e4, e5] h = .er c x h)) :
    A__law_made_fault [.int k, a, b, e4, e5] h = .ok (tagD w x) h := by
  unfold A__law_made_fault
  have hm : c ∈ errCs := by rcases hw with ⟨rfl, _⟩ | ⟨rfl, _⟩ | ⟨rfl, _⟩ | ⟨rfl, _⟩ <;> decide
  have hy : (tagD w x).clo 0 = true := by
    show (true && (x.clo 0 && true)) = true
    rw [hx]
    rfl
  refine Eq.trans (runB_rt (h' := h) (d := tagD w x) rfl (seq_rtn ?_)) (fin_same hc hy)
  have cond : ∀ (j : Int) (v : Bool), decide (k = j) = v → aB (aOp (dEq false) (aVar 0) (aC (.int j))) [some (.int k), some a, some b, some e4, some e5, none] h = .ok v h := fun j v e => b_e (op_e rfl rfl (by rw [dEq_i, ← e]; rfl))
  have body : (sIf (aB (aOp (dEq false) (aVar 0) (aC (.int 0))))
      (sExp (aCall A_with_slips (aCons (aVar 1) (aCons (aVar 2) aNil))))
      (sIf (aB (aOp (dEq false) (aVar 0) (aC (.int 1))))
      (sExp (aCall A_with_times (aCons (aVar 1) (aCons (aVar 2) aNil))))
      (sIf (aB (aOp (dEq false) (aVar 0) (aC (.int 2))))
      (sExp (aCall A_repeated (aCons (aVar 1) (aCons (aVar 2) aNil))))
      (sExp (aCallK A_free_line 3 1 (aCons (aVar 1) (aCons (aVar 2) (aCons (aVar 3) aNil))) (aCons (aVar 4) aNil)))))) [some (.int k), some a, some b, some e4, some e5, none] h = .er c x [some (.int k), some a, some b, some e4, some e5, none] h := by
    rcases e with ⟨rfl, e⟩ | ⟨rfl, e⟩ | ⟨rfl, e⟩ | ⟨rfl, e⟩
    · exact (if_t (cond 0 true rfl)).trans (exp_er (call_er rfl e))
    · exact (if_f (cond 0 false rfl)).trans ((if_t (cond 1 true rfl)).trans (exp_er (call_er rfl e)))
    · exact (if_f (cond 0 false rfl)).trans ((if_f (cond 1 false rfl)).trans ((if_t (cond 2 true rfl)).trans (exp_er (call_er rfl e))))
    · refine (if_f (cond 0 false rfl)).trans ((if_f (cond 1 false rfl)).trans ((if_f (cond 2 false rfl)).trans (exp_er ?_)))
      rw [aCallK_e]
      exact e
  refine (try_er body hm).trans ?_
  rcases hw with ⟨rfl, rfl⟩ | ⟨rfl, rfl⟩ | ⟨rfl, rfl⟩ | ⟨rfl, rfl⟩
  · exact hdl_pos (by show 5 < 6; decide)
  · exact (hdl_neg (by decide)).trans (hdl_pos (by show 5 < 6; decide))
  · exact (hdl_neg (by decide)).trans ((hdl_neg (by decide)).trans (hdl_pos (by show 5 < 6; decide)))
  · exact (hdl_neg (by decide)).trans ((hdl_neg (by decide)).trans ((hdl_neg (by decide)).trans (hdl_pos (by show 5 < 6; decide))))
theorem fault_ok {a b e4 e5 : D} (hc : HC h) (e : A_free_line [a, b, e4, e5] h = .ok d h) : A__law_made_fault [.int 3, a, b, e4, e5] h = .ok .non h := by
  unfold A__law_made_fault
  refine Eq.trans (runB_rt (h' := h) (d := .non) rfl ?_) (fin_same hc rfl)
  have cond : ∀ (j : Int) (v : Bool), decide ((3 : Int) = j) = v → aB (aOp (dEq false) (aVar 0) (aC (.int j))) [some (.int 3), some a, some b, some e4, some e5, none] h = .ok v h := fun j v e => b_e (op_e rfl rfl (by rw [dEq_i, ← e]; rfl))
  refine (seq_nxt (try_nx (δ1 := [some (.int 3), some a, some b, some e4, some e5, none]) (h1 := h) ?_)).trans rfl
  refine (if_f (cond 0 false rfl)).trans ((if_f (cond 1 false rfl)).trans ((if_f (cond 2 false rfl)).trans ?_))
  rw [sExp_e, aCallK_e]
  show Mr.R.thn (A_free_line [a, b, e4, e5] h) _ _ = _
  rw [e]
  rfl
/-- ('word', number) compared with itself -/
theorem eq_tag {neg : Bool} {s : String} {n : Int} (hs : PyData.canLay0 (.str s) = true) : dEq neg (tagD s (.int n)) (.tup [.str s, .int n]) h = .ok (.bl (!neg)) h := by
  have e1 : toPy1 h (tagD s (.int n)) = some (.tuple [.str s, .int n]) := by
    show toPy (tagD s (.int n)) = _
    simp [tagD, toPy, toPyL]
  have e2 : toPy1 h (.tup [.str s, .int n]) = some (.tuple [.str s, .int n]) := e1
  have e3 : SeqAt.shaped (.tuple [.str s, .int n]) = true := by
    unfold SeqAt.shaped
    have : PyData.canLay0 (.tuple [.str s, .int n]) = true := by
      show (PyData.canLay0 (.str s) && (true && true)) = true
      rw [hs]
      rfl
    rw [this]
    simp [PyData.depth, PyData.depthAll]
  have e4 : PyData.eqv (.tuple [.str s, .int n]) (.tuple [.str s, .int n]) = true := by
    show (((s : Str) == (s : Str)) && ((n == n) && true)) = true
    simp
  unfold dEq
  rw [e1, e2]
  show (if SeqAt.shaped (.tuple [.str s, .int n]) && SeqAt.shaped (.tuple [.str s, .int n]) then R.ok (D.bl (if neg then !PyData.eqv (.tuple [.str s, .int n]) (.tuple [.str s, .int n]) else PyData.eqv (.tuple [.str s, .int n]) (.tuple [.str s, .int n]))) h else .bad) = _
  rw [e3, e4]
  cases neg <;> rfl
end
end Mr
/-! the order refused at its last pair -/
namespace Mr
open PySem PySem.Spec PyProof.Rows L2 Aq
section
variable {h : AH} {d : D} {xs : List D} {δ δ' : AEnv} {j : Int}
def OInv (h : AH) (d : D) (n : Nat) (ps : List P2) (rk : Int → Nat) (i : Nat) (δ : AEnv) (hh : AH) : Prop := ∃ ms o4 o5 o6 o7, δ = [some d, some (.int n), some (.ref h.length), some (.ref (h.length + 1)), o4, o5, o6, o7] ∧ hh = h ++ [.lst ((ps.take i).map pD), .lst (mvD ms)] ∧ ms.length = n ∧ Rank (fun k => rk k) ms
theorem order_step {n i : Nat} {ps : List P2} {q : P2 → D} {rk : Int → Nat} {p : P2} {hh : AH} (hc : HC h) (hq : ∀ p ∈ ps, PQ (q p) p) (ho : Ordd n ps rk) (hl : ps.length ≤ 200) (hn : n ≤ 24) (hp : ps[i]? = some p) (hI : OInv h d n ps rk i δ hh) :
    ∃ δ1 h1 δ2 h2, gUn 2 (gConsA (gNam 4) (gConsA (gNam 5) gNilA)) (.tup [.int i, q p]) δ hh = .ok δ1 h1 ∧ (L1_checked_order δ1 h1 = .nx δ2 h2 ∨ L1_checked_order δ1 h1 = .ct δ2 h2) ∧ OInv h d n ps rk (i + 1) δ2 h2 := by
  obtain ⟨ms, o4, o5, o6, o7, e1, e2, hm, hR⟩ := hI
  have H2 : ∀ (l : List P2) (ms : List Nat), HC (h ++ [.lst (l.map pD), .lst (mvD ms)]) := fun l ms => hc2 hc (x := .lst (l.map pD)) (y := .lst (mvD ms)) (clo_pD l) (mvD_clo ms)
  subst e1 e2
  have hmem := List.mem_of_getElem? hp
  obtain ⟨b0, b1, a0, a1⟩ := ho.inn p hmem
  have hlt := ho.rk p hmem
  have hne : p.1 ≠ p.2 := fun e => by rw [e] at hlt; exact Nat.lt_irrefl _ hlt
  obtain ⟨x, hx⟩ := Int.eq_ofNat_of_zero_le b0
  obtain ⟨y, hy⟩ := Int.eq_ofNat_of_zero_le a0
  have hxn : x < ms.length := by omega
  have hyn : y < ms.length := by omega
  have hrk : rk (x : Int) < rk (y : Int) := by rw [← hx, ← hy]; exact hlt
  have hpD : pD p = .tup [.int x, .int y] := by
    show D.tup [.int p.1, .int p.2] = _
    rw [hx, hy]
  obtain ⟨my, hmy⟩ : ∃ m, ms[y]? = some m := ⟨_, List.getElem?_eq_getElem hyn⟩
  have hnot : p ∉ ps.take i := fun m => by
    obtain ⟨l1, g1⟩ := List.getElem?_eq_some_iff.mp hp
    obtain ⟨j, hj, e⟩ := List.getElem_of_mem m
    rw [List.length_take] at hj
    rw [List.getElem_take] at e
    have := (List.pairwise_iff_getElem.mp ho.nd) j i (by omega) l1 (by omega)
    exact this (by rw [e, g1])
  have hbit : my.testBit x = false := by
    cases ht : my.testBit x with
    | false => rfl
    | true => exact absurd (hR y my x hmy ht) (by show ¬ rk (y : Int) < rk (x : Int); omega)
  -- the heaps
  have eput := put_e (h := h ++ [.lst ((ps.take (i + 1)).map pD), .lst (mvD ms)]) (rk := fun k => rk k) (ms := ms) (b := h.length + 1) (x := x) (y := y) (H2 _ _) g2 (by omega) hxn hyn hR hrk
  obtain ⟨ms', ep, hl', hR'⟩ := eput
  rw [s2] at ep
  refine ⟨[some d, some (.int n), some (.ref h.length), some (.ref (h.length + 1)), some (.int i), some (q p), o6, o7], h ++ [.lst ((ps.take i).map pD), .lst (mvD ms)], [some d, some (.int n), some (.ref h.length), some (.ref (h.length + 1)), some (.int i), some (q p), some (.int x), some (.int y)], h ++ [.lst ((ps.take (i + 1)).map pD), .lst (mvD ms')], rfl, .inl ?_, ms', _, _, _, _, rfl, rfl, by omega, hR'⟩
  unfold L1_checked_order
  refine (seq_no (not_e (k := true) (b_e (call_e rfl (is_pair_t (H2 _ _) (hq p hmem) ⟨b0, b1, a0, a1⟩ hne))) rfl)).trans ?_
  have eas : sAsg (aVar 5) (gUn 2 (gConsA (gNam 6) (gConsA (gNam 7) gNilA))) [some d, some (.int n), some (.ref h.length), some (.ref (h.length + 1)), some (.int i), some (q p), o6, o7] (h ++ [.lst ((ps.take i).map pD), .lst (mvD ms)])
      = .nx [some d, some (.int n), some (.ref h.length), some (.ref (h.length + 1)), some (.int i), some (q p), some (.int x), some (.int y)] (h ++ [.lst ((ps.take i).map pD), .lst (mvD ms)]) := by
    rw [sAsg_e]
    show (gUn 2 _ (q p) _ _).toS = _
    rw [gUn_q (n := 2) (hq p hmem) rfl, hx, hy]
    rfl
  refine (seq_nxt eas).trans ?_
  have hin : dIn false (pD p) (.ref h.length) (h ++ [.lst ((ps.take i).map pD), .lst (mvD ms)]) = .ok (.bl false) (h ++ [.lst ((ps.take i).map pD), .lst (mvD ms)]) := by
    rw [dIn_pairs (neg := false) (ps := ps.take i) (by
      show (_[h.length]?).bind Cell.lst? = _
      rw [g1]
      rfl), decide_eq_false hnot]
    rfl
  rw [hpD] at hin
  have eix : dIx (.ref (h.length + 1)) (.int (y : Int)) (h ++ [.lst ((ps.take i).map pD), .lst (mvD ms)]) = .ok (.int (my : Int)) (h ++ [.lst ((ps.take i).map pD), .lst (mvD ms)]) := dIx_ref (Int.natCast_nonneg y) g2 (by rw [Int.toNat_natCast]; exact mvD_at hmy)
  have eT : (Builtin.bitAnd ((my : Int) / 2 ^ (x : Int).toNat) 1 != 0) = my.testBit x := by rw [shr_nat, and_one, bit_of]
  refine (seq_no (or_f (b_e (op_e (tup_e rfl) rfl hin)) (tru_e (op_e (op_e (op_e rfl rfl eix) rfl (dShr_i (by omega))) rfl dAnd_i) (by rw [eT, hbit])))).trans ?_
  have ap := aApp_e (a := aVar 2) (b := aTup (aCons (aVar 6) (aCons (aVar 7) aNil))) (δ := [some d, some (.int n), some (.ref h.length), some (.ref (h.length + 1)), some (.int i), some (q p), some (.int x), some (.int y)]) (n := h.length) (xs := (ps.take i).map pD) (zs := (ps.take i).map pD) (d := pD p) (h := h ++ [.lst ((ps.take i).map pD), .lst (mvD ms)]) rfl g1 (by rw [hpD]; rfl) g1 (by rw [List.length_map, List.length_take]; omega)
  rw [s1] at ap
  have et : (ps.take i).map pD ++ [pD p] = (ps.take (i + 1)).map pD := by
    rw [List.take_add_one, hp, List.map_append]
    rfl
  rw [et] at ap
  refine (seq_exp ap).trans ?_
  rw [sExp_e, call_e rfl ep]
  rfl
theorem checked_order_er {n : Nat} {ps : List P2} {rk : Int → Nat} (hc : HC h) (ho : Ordd n ps rk) (hl : ps.length < 200) (hn : n ≤ 24) (h0 : 0 < n) : A_checked_order [.tup ((ps ++ [(0, 0)]).map pD), .int n] h = .er "BadPair" (.int ps.length) h := by
  unfold A_checked_order
  have hd : SQ (.tup ((ps ++ [(0, 0)]).map pD)) ((ps ++ [(0, 0)]).map pD) := .inl rfl
  have hlen : ((ps ++ [((0 : Int), (0 : Int))]).map pD).length = ps.length + 1 := by simp
  obtain ⟨δ2, h2, e, e2⟩ := for_er (c := "BadPair") (x := .int ps.length) (s := ⟨enD ((ps ++ [(0, 0)]).map pD), []⟩) (g := gUn 2 (gConsA (gNam 4) (gConsA (gNam 5) gNilA))) (b := L1_checked_order) rfl (OInv h (.tup ((ps ++ [(0, 0)]).map pD)) n ps rk) (fun hh => ∃ l, hh = h ++ l) 0 ps.length (enD ((ps ++ [(0, 0)]).map pD)) (δ := [some (.tup ((ps ++ [(0, 0)]).map pD)), some (.int n), some (.ref h.length), some (.ref (h.length + 1)), none, none, none, none]) (h := h ++ [.lst [], .lst (mvD (List.replicate n 0))])
    ⟨List.replicate n 0, none, none, none, none, rfl, rfl, List.length_replicate, rank0 _ _⟩ (fun i z δ hh hi hz hI => by
      obtain ⟨v, hv, rfl⟩ := en_get hz
      rw [List.getElem?_map, List.getElem?_append_left hi] at hv
      obtain ⟨p, hp, rfl⟩ := Option.map_eq_some_iff.mp hv
      rw [Nat.zero_add] at hI ⊢
      exact order_step (q := pD) hc (fun p _ => .inl rfl) ho (by omega) hn hp hI) (by
      refine ⟨.tup [.int ps.length, pD (0, 0)], ?_, fun δ hh hI => ?_⟩
      · unfold enD
        rw [List.getElem?_zipWith, hlen, List.getElem?_range (by omega), List.getElem?_map, List.getElem?_append_right (Nat.le_refl _)]
        simp
      · obtain ⟨ms, o4, o5, o6, o7, e1, e2, hm, hR⟩ := hI
        subst e1 e2
        refine ⟨[some (.tup ((ps ++ [(0, 0)]).map pD)), some (.int n), some (.ref h.length), some (.ref (h.length + 1)), some (.int ps.length), some (pD (0, 0)), o6, o7], _, [some (.tup ((ps ++ [(0, 0)]).map pD)), some (.int n), some (.ref h.length), some (.ref (h.length + 1)), some (.int ps.length), some (pD (0, 0)), o6, o7], h ++ [.lst ((ps.take (0 + ps.length)).map pD), .lst (mvD ms)], rfl, ?_, [.lst ((ps.take (0 + ps.length)).map pD), .lst (mvD ms)], rfl⟩
        unfold L1_checked_order
        have hcc : HC (h ++ [.lst ((ps.take (0 + ps.length)).map pD), .lst (mvD ms)]) := hc2 hc (x := .lst ((ps.take (0 + ps.length)).map pD)) (y := .lst (mvD ms)) (clo_pD _) (mvD_clo ms)
        have ep : A_is_pair [pD (0, 0), .int n] (h ++ [.lst ((ps.take (0 + ps.length)).map pD), .lst (mvD ms)]) = .ok (.bl false) (h ++ [.lst ((ps.take (0 + ps.length)).map pD), .lst (mvD ms)]) := by
          unfold A_is_pair
          refine Eq.trans (runB_rt (d := .bl false) rfl (ret_e ?_)) (fin_same hcc rfl)
          have q0 : PQ (pD (0, 0)) (0, 0) := .inl rfl
          refine andV_t (call_e rfl (has_length_t hcc q0)) ?_
          have ew : A_are_within [pD (0, 0), .int 0, .int ((n : Int) - 1)] (h ++ [.lst ((ps.take (0 + ps.length)).map pD), .lst (mvD ms)]) = .ok (.bl true) (h ++ [.lst ((ps.take (0 + ps.length)).map pD), .lst (mvD ms)]) := by
            rw [are_within_t (zs := [0, 0]) hcc q0 (by simp)]
            congr 2
            simp
            omega
          refine andV_t (call_e (cons_e rfl (cons_e rfl (cons_e (op_e rfl rfl rfl) rfl))) ew) ?_
          exact op_e (op_e rfl rfl (SQ.ix q0 (by decide) rfl)) (op_e rfl rfl (SQ.ix q0 (by decide) rfl)) (by rw [dEq_i, decide_eq_true rfl]; rfl)
        exact seq_yes (not_e (k := false) (b_e (call_e rfl ep)) rfl) (raise_e rfl))
  obtain ⟨l, rfl⟩ := e2
  have body : (sSeq (sIf (aNot (aB (aCall A_is_sequence (aCons (aVar 0) aNil)))) (sRaise "BadValue" (aC (.int 2))) sNil)
    (sSeq (sIf (aB (aOp dGt (aCb dLen (aCons (aVar 0) aNil)) (aC (.int 200)))) (sRaise "TooMany" (aC (.str "pairs"))) sNil)
    (sSeq (sSet 2 (aLs aNil))
    (sSeq (sSet 3 (aRep (aVl (aCons (aC (.int 0)) aNil)) (aVar 1)))
    (sSeq (sFor (iEnA (aCons (aVar 0) aNil)) (gUn 2 (gConsA (gNam 4) (gConsA (gNam 5) gNilA))) L1_checked_order)
    (sRet (aCb dTuple (aCons (aVar 2) aNil)))))))) (startA 8 [.tup ((ps ++ [(0, 0)]).map pD), .int n]) h = .er "BadPair" (.int ps.length) δ2 (h ++ l) := by
    refine (seq_no (not_e (k := true) (b_e (call_e rfl (is_sequence_t hc hd))) rfl)).trans ?_
    refine (seq_no (b_e (op_e (cb_e rfl (hd.len h)) rfl (by rw [dGt_i, decide_eq_false (by rw [hlen]; omega)])))).trans ?_
    refine (seq_set (d := .ref h.length) (h1 := h ++ [.lst []]) rfl).trans ?_
    refine (seq_set (d := .ref (h.length + 1)) (h1 := h ++ [.lst [], .lst (mvD (List.replicate n 0))]) ?_).trans ?_
    · have := aRep_0 (a := aVar 1) (δ := [some (.tup ((ps ++ [(0, 0)]).map pD)), some (.int n), some (.ref h.length), none, none, none, none, none]) (h := h ++ [.lst []]) (k := n) rfl (by omega)
      rw [List.append_assoc, List.length_append] at this
      exact this
    have ef : sFor (iEnA (aCons (aVar 0) aNil)) (gUn 2 (gConsA (gNam 4) (gConsA (gNam 5) gNilA))) L1_checked_order [some (.tup ((ps ++ [(0, 0)]).map pD)), some (.int n), some (.ref h.length), some (.ref (h.length + 1)), none, none, none, none] (h ++ [.lst [], .lst (mvD (List.replicate n 0))]) = .er "BadPair" (.int ps.length) δ2 (h ++ l) := by
      rw [sFor_en (d := .tup ((ps ++ [(0, 0)]).map pD)) (h1 := h ++ [.lst [], .lst (mvD (List.replicate n 0))]) rfl hd]
      exact e
    exact seq_err ef
  have := er_fin (h := h) rfl body (by rw [take_push rfl]; exact hc) rfl
  rwa [take_push rfl] at this
end
end Mr
/-! what the law hands over wrongly -/
namespace Mr
open PySem PySem.Spec PyProof.Rows L2 Aq
section
variable {h : AH} {d : D} {xs : List D} {δ δ' : AEnv} {i j : Int} {c : Str} {x y : D} {L : LineV}
theorem slips_bad (x : D) (m : x ∈ [D.int 9, .int (-1), .bl true, .str "0", .tup []]) (hc : HC h) : A_is_slips [x] h = .ok (.bl false) h := by
  simp only [List.mem_cons, List.not_mem_nil, or_false] at m
  rcases m with rfl | rfl | rfl | rfl | rfl
  · exact is_slips_f hc rfl (by rw [is_within_t hc]; rfl)
  · exact is_slips_f hc rfl (by rw [is_within_t hc]; rfl)
  · exact is_slips_f hc rfl (is_within_f hc (is_integer_b hc))
  · exact is_slips_f hc rfl (is_within_f hc (int_str hc))
  · exact is_slips_f hc rfl (is_within_f hc (int_tup hc))
theorem times_bad (ok : L.Ok) (x : D) (m : x ∈ [D.tup ((L.jobs.map pD).drop 1), .tup (L.jobs.map pD ++ [pD (1, 1)]), .non, .int 5, .str "ab"]) (hc : HC h) : A_with_times [L.o, x] h = .er "BadValue" (.int 2) h := by
  have := ok.j0
  simp only [List.mem_cons, List.not_mem_nil, or_false] at m
  rcases m with rfl | rfl | rfl | rfl | rfl
  · exact with_times_l hc (.inl rfl) (by rw [List.length_drop, List.length_map]; omega)
  · exact with_times_l hc (.inl rfl) (by rw [List.length_append, List.length_map, List.length_singleton]; omega)
  · exact with_times_n hc (is_sequence_f (S := "NoneType") hc rfl (by kernel_rfl) (by kernel_rfl))
  · exact with_times_n hc (is_sequence_f (S := "int") hc rfl (by kernel_rfl) (by kernel_rfl))
  · exact with_times_n hc (is_sequence_f (S := "str") hc rfl (by kernel_rfl) (by kernel_rfl))
theorem task_f (hc : HC h) {p q : D} {a b : Bool} (e1 : A_is_within [q, .int 0, .int 10000] h = .ok (.bl a) h) (e2 : a = true → A_is_within [p, .int 0, q] h = .ok (.bl false) h) : A_is_task [.tup [p, q]] h = .ok (.bl false) h := by
  unfold A_is_task
  refine Eq.trans (runB_rt (h' := h) (d := .bl false) rfl ?_) (fin_same hc rfl)
  refine (seq_no (not_e (k := true) (b_e (call_e rfl (has_length_t (xs := [p, q]) hc (.inl rfl)))) rfl)).trans ?_
  have e : sAsg (aVar 0) (gUn 2 (gConsA (gNam 1) (gConsA (gNam 2) gNilA))) (startA 3 [.tup [p, q]]) h = .nx [some (.tup [p, q]), some p, some q] h := by
    rw [sAsg_e]
    have g := gUn_q (n := 2) (r := gConsA (gNam 1) (gConsA (gNam 2) gNilA)) (d := .tup [p, q]) (δ := startA 3 [.tup [p, q]]) (h := h) (xs := [p, q]) (.inl rfl) rfl
    exact congrArg R.toS g
  refine (seq_nxt e).trans (ret_e ?_)
  cases a with
  | false => exact andV_f (call_e rfl e1)
  | true => exact andV_t (call_e rfl e1) (call_e rfl (e2 rfl))
theorem task_l (hc : HC h) (e : A_has_length [d, .int 2, .int 2] h = .ok (.bl false) h) : A_is_task [d] h = .ok (.bl false) h := by
  unfold A_is_task
  refine Eq.trans (runB_rt (h' := h) (d := .bl false) rfl ?_) (fin_same hc rfl)
  exact seq_rtn ((if_t (not_e (k := false) (b_e (call_e rfl e)) rfl)).trans rfl)
theorem tasks_bad (x : D) (m : x ∈ [D.tup [.int 2, .int 1], .tup [.int 0, .int 10001], .non, .tup [.int 1], .str "12", .tup [.bl true, .int 2]]) (hc : HC h) : A_is_task [x] h = .ok (.bl false) h := by
  simp only [List.mem_cons, List.not_mem_nil, or_false] at m
  rcases m with rfl | rfl | rfl | rfl | rfl | rfl
  · exact task_f (b := true) hc (is_within_t hc) (fun _ => by rw [is_within_t hc]; rfl)
  · exact task_f (b := true) hc (a := false) (by rw [is_within_t hc]; rfl) (fun z => by cases z)
  · exact task_l hc (has_length_f (S := "NoneType") hc rfl (by kernel_rfl) (by kernel_rfl))
  · exact task_l hc (by rw [has_length_t (xs := [.int 1]) hc (.inl rfl)]; rfl)
  · exact task_l hc (has_length_f (S := "str") hc rfl (by kernel_rfl) (by kernel_rfl))
  · exact task_f (b := true) hc (is_within_t hc) (fun _ => is_within_f hc (is_integer_b hc))
theorem rows_bad (ok : L.Ok) (x : D) (m : x ∈ [D.tup [], .non, .int 5, .str "0", .tup [.int L.kinds.length], .tup [.int 0, .int (-1)], .tup [.bl true], .tup ((rgD 0 41).map fun _ => .int 0)]) (hc : HC h) : A_repeated [L.o, x] h = .er "BadValue" (.int 2) h := by
  have k0 := ok.k0
  have k1 := ok.k1
  simp only [List.mem_cons, List.not_mem_nil, or_false] at m
  rcases m with rfl | rfl | rfl | rfl | rfl | rfl | rfl | rfl
  · exact repeated_er hc (.inl (by rw [has_length_t (xs := []) hc (.inl rfl)]; rfl))
  · exact repeated_er hc (.inl (has_length_f (S := "NoneType") hc rfl (by kernel_rfl) (by kernel_rfl)))
  · exact repeated_er hc (.inl (has_length_f (S := "int") hc rfl (by kernel_rfl) (by kernel_rfl)))
  · exact repeated_er hc (.inl (has_length_f (S := "str") hc rfl (by kernel_rfl) (by kernel_rfl)))
  · refine repeated_er hc (.inr ⟨by rw [has_length_t (xs := [.int L.kinds.length]) hc (.inl rfl)]; rfl, ?_⟩)
    refine (are_within_t (zs := [(L.kinds.length : Int)]) hc (.inl rfl) (by simp)).trans ?_
    congr 2
    simp
    omega
  · refine repeated_er hc (.inr ⟨by rw [has_length_t (xs := [.int 0, .int (-1)]) hc (.inl rfl)]; rfl, ?_⟩)
    refine (are_within_t (zs := [0, -1]) hc (.inl rfl) (by simp)).trans ?_
    congr 2
    simp
  · refine repeated_er hc (.inr ⟨by rw [has_length_t (xs := [.bl true]) hc (.inl rfl)]; rfl, ?_⟩)
    unfold A_are_within
    refine Eq.trans (runB_rt (h' := h) (d := .bl false) rfl (ret_e ?_)) (fin_same hc rfl)
    refine andV_t (call_e rfl (is_sequence_t (xs := [.bl true]) hc (.inl rfl))) ?_
    have e := lc_map (h := h) (ds := [.bl true]) (i := 3) (δ := wipA [some (.tup [.bl true]), some (.int 0), some (.int (L.kinds.length - 1)), none] [3]) (te := aCall A_is_within (aCons (aVar 3) (aCons (aVar 1) (aCons (aVar 2) aNil)))) (f := fun _ => .bl false) (by simp) (fun z hz => by
      rw [List.mem_singleton.mp hz]
      exact call_e rfl (is_within_f hc (is_integer_b hc)))
    exact cb_e (cons_e (aLc_seq (d := .tup [.bl true]) rfl (.inl rfl) e) rfl) (dAll_vl [false])
  · exact repeated_er hc (.inl (by rw [has_length_t (xs := (rgD 0 41).map fun _ => .int 0) hc (.inl rfl)]; rw [List.length_map, rgD_length]; rfl))
/-- one of the list's, by a draw -/
theorem pick {t : AAs} {b : AEx} {r : Int} {h' : AH} (e1 : aVl t δ h = .ok (.vl xs) h) (e2 : b δ h = .ok (.int r) h') (r0 : 0 ≤ r) (r1 : r < xs.length) : ∃ x ∈ xs, aOp dIx (aVl t) b δ h = .ok x h' := by
  have hr : r.toNat < xs.length := by omega
  exact ⟨xs[r.toNat], List.getElem_mem _, op_e e1 e2 (dIx_vl r0 (List.getElem?_eq_getElem hr))⟩
theorem set_t {k : Int} {v : D} (hc : HC h) (hx : cloL 0 xs = true) (hv : v.clo 0 = true) (k0 : 0 ≤ k) (k1 : k < xs.length) : A__law_set [.tup xs, .int k, v] h = .ok (.tup (xs.set k.toNat v)) h := by
  unfold A__law_set
  have hcl : cloL 0 (xs.set k.toNat v) = true := clol_iff.mpr fun y m => by
    rcases List.mem_or_eq_of_mem_set m with q | q
    · exact clol_iff.mp hx y q
    · rw [q]; exact hv
  refine Eq.trans (runB_rt (h' := h ++ [.lst (xs.set k.toNat v)]) (d := .tup (xs.set k.toNat v)) rfl ?_) ?_
  · refine (seq_set (d := .ref h.length) (h1 := h ++ [.lst xs]) rfl).trans ?_
    have g := gSub_e (a := aVar 3) (b := aVar 1) (d := v) (δ := [some (.tup xs), some (.int k), some v, some (.ref h.length)]) (h := h ++ [.lst xs]) (n := h.length) (i := k) (i' := k.toNat) (xs := xs) rfl rfl (get_push rfl) (by
      unfold ixN
      rw [if_pos k0, if_pos k1])
    rw [set_push rfl] at g
    have es : sAsg (aVar 2) (gSubA (aVar 3) (aVar 1)) [some (.tup xs), some (.int k), some v, some (.ref h.length)] (h ++ [.lst xs]) = .nx [some (.tup xs), some (.int k), some v, some (.ref h.length)] (h ++ [.lst (xs.set k.toNat v)]) := by
      rw [sAsg_e]
      exact congrArg R.toS g
    refine (seq_nxt es).trans ?_
    exact ret_e (cb_e rfl (dTuple_ref (get_push rfl)))
  · have hk := take_push (h := h) (l := [Cell.lst (xs.set k.toNat v)]) (k := h.length) rfl
    have := fin_val (n := h.length) (h := h ++ [.lst (xs.set k.toNat v)]) (d := .tup (xs.set k.toNat v)) (by rw [hk]; exact hc) hcl
    rw [hk] at this
    exact this
theorem ascending_f {c : Int} (hc : HC h) : A_is_ascending [.tup [.int c], .int c] h = .ok (.bl false) h := by
  unfold A_is_ascending
  refine Eq.trans (runB_rt (h' := h) (d := .bl false) rfl ?_) (fin_same hc rfl)
  refine (seq_no (not_e (k := true) (b_e (call_e rfl (is_sequence_t (xs := [.int c]) hc (.inl rfl)))) rfl)).trans ?_
  refine (seq_set (d := .int 0) (h1 := h) rfl).trans ?_
  have e : forL ⟨[.int c], []⟩ (gNam 3) L1_is_ascending [.int c] [some (.tup [.int c]), some (.int c), some (.int 0), none] h = .rt (.bl false) h := by
    have eb : L1_is_ascending [some (.tup [.int c]), some (.int c), some (.int 0), some (.int c)] h = .rt (.bl false) h := by
      unfold L1_is_ascending
      exact seq_rtn ((if_t (not_e (k := false) (b_e (call_e (cons_e rfl (cons_e rfl (cons_e (op_e rfl rfl rfl) rfl))) (by rw [is_within_t hc, decide_eq_false (by omega)]))) rfl)).trans rfl)
    rw [forL, if_pos src_ok]
    show (match L1_is_ascending [some (.tup [.int c]), some (.int c), some (.int 0), some (.int c)] h with
      | .nx δ2 h2 => forL ⟨[.int c], []⟩ (gNam 3) L1_is_ascending [] δ2 h2
      | .ct δ2 h2 => forL ⟨[.int c], []⟩ (gNam 3) L1_is_ascending [] δ2 h2
      | .bk δ2 h2 => .nx δ2 h2
      | r => r) = _
    rw [eb]
  exact seq_rtn ((sFor_tup (a := aVar 0) (h1 := h) (ds := [.int c]) rfl).trans e)
/-! the free line -/
def freeP (k : Nat) : List P2 := (List.range k).map fun i : Nat => ((i : Int), 0)
def LineV.free (L : LineV) (o : Option Int) : LineV := ⟨L.jobs, L.pairs, L.kinds, [freeP L.kinds.length], 0, o⟩
theorem freeD_e (k : Nat) : freeD k = .vl ((freeP k).map pD) := by
  unfold freeD freeP
  rw [rgD_map, List.map_map, List.map_map, List.map_map]
  rfl
theorem free_ok_ (ok : L.Ok) {o : Option Int} (ho : ∀ i, o = some i → 0 ≤ i ∧ i ≤ 8) : (L.free o).Ok := by
  have k0 := ok.k0
  have k1 := ok.k1
  have key : ∀ ps ∈ [freeP L.kinds.length], ArcsOk L.kinds.length (1 : Nat) ps ∧ ps.length ≤ 40 := fun ps m => by
    rw [List.mem_singleton.mp m]
    refine ⟨⟨?_, ?_, fun p m => ?_⟩, ?_⟩
    · unfold freeP
      exact List.Pairwise.map _ (fun a b (h : a ≠ b) e => h (Int.ofNat.inj (congrArg Prod.fst e))) List.nodup_range
    · intro z
      have hz := congrArg List.length z
      unfold freeP at hz
      rw [List.length_map, List.length_range, List.length_nil] at hz
      omega
    · unfold freeP at m
      obtain ⟨i, hi, rfl⟩ := List.mem_map.mp m
      have hi' := List.mem_range.mp hi
      refine ⟨Int.natCast_nonneg i, ?_, Int.le_refl 0, (by show (0 : Int) < (1 : Nat); decide)⟩
      show (i : Int) < (L.kinds.length : Nat)
      omega
    · unfold freeP
      rw [List.length_map, List.length_range]
      omega
  exact ⟨ok.j0, ok.j1, ok.jb, ok.pr, ok.p1, k0, k1, ok.kd, Nat.one_pos, (by show 1 ≤ 60; decide), key, Int.le_refl 0, (by show (0 : Int) < (1 : Nat); decide), ho⟩
theorem args_free (L : LineV) (o : Option Int) : Args (L.free o) (.tup (L.jobs.map pD)) (.tup (L.pairs.map pD)) (.tup (L.kinds.map kindD)) (.vl [freeD L.kinds.length]) where
  t := ⟨_, .inl rfl, fun p _ => .inl rfl⟩
  o := ⟨_, .inl rfl, fun p _ => .inl rfl⟩
  m := ⟨kindD, .inl rfl, fun z _ => .inl rfl⟩
  st := ⟨fun ps => .vl (ps.map pD), pD, .inr (by rw [freeD_e]; rfl), fun ps _ => .inr rfl, fun p => .inl rfl⟩
end
end Mr
set_option maxHeartbeats 4000000
/-! law k06 -/
namespace Mr
open PySem PySem.Spec PyProof.Rows L2 Aq
section
variable {h : AH} {δ : AEnv}
theorem ne_tag {a b : AEx} {w : String} {k : Int} (e : a δ h = .ok (tagD w (.int k)) h) (e2 : b δ h = .ok (.tup [.str w, .int k]) h) (hs : PyData.canLay0 (.str w) = true) : aB (aOp (dEq true) a b) δ h = .ok false h := b_e (k := false) (op_e e e2 (eq_tag (neg := true) hs))
theorem ne_tag2 {h0 : AH} {a b : AEx} {w : String} {k : Int} (e : a δ h0 = .ok (tagD w (.int k)) h) (e2 : b δ h = .ok (.tup [.str w, .int k]) h) (hs : PyData.canLay0 (.str w) = true) : aB (aOp (dEq true) a b) δ h0 = .ok false h := b_e (k := false) (op_e e e2 (eq_tag (neg := true) hs))
end
theorem vl_e {δ : AEnv} {h h1 : AH} {t : AAs} {xs : List D} (e : t δ h = .ok xs h1) : aVl t δ h = .ok (.vl xs) h1 := by
  rw [aVl_e, e] <;> rfl
theorem s_value : PyData.canLay0 (.str "value") = true := by kernel_rfl
theorem s_task : PyData.canLay0 (.str "task") = true := by kernel_rfl
theorem s_pair : PyData.canLay0 (.str "pair") = true := by kernel_rfl
theorem s_model : PyData.canLay0 (.str "model") = true := by kernel_rfl
theorem law_true : ∀ ms : List Int, 0 < ms.length → ∃ h', A_law (δ_law ms) [] = .rt (.bl true) h' := by
  intro ms hR
  have S0 : St 0 0 [Cell.lst [.int 0]] := ⟨rfl, Int.le_refl 0, rfl⟩
  obtain ⟨d, n1, l1, e1, hcl, L, rfl, ok, hk3⟩ := case_e hR S0
  have B : ∀ n', 0 ≤ n' → St 0 n' (bump [Cell.lst [.int 0]] 0 n') := fun n' z => S0.up z
  have C : ∀ n', HC (bump [Cell.lst [.int 0]] 0 n') := fun n' => S0.hc.set 0 (c := .lst [.int n']) rfl
  have T : ∀ (n' m : Int), 0 ≤ n' → 0 < m → ∃ r, A__law_take [rowD ms, .ref 0, .int m] (bump [Cell.lst [.int 0]] 0 n') = .ok (.int r) (bump [Cell.lst [.int 0]] 0 (n' + 1)) ∧ 0 ≤ r ∧ r < m := by
    intro n' m h0 hm
    obtain ⟨r, e, h⟩ := take_e hR (B n' h0) hm
    rw [bump_bump] at e
    exact ⟨r, e, h⟩
  have j0 := ok.j0
  have j1 := ok.j1
  obtain ⟨r1, t1, r10, r11⟩ := T n1 5 (by omega) (by decide)
  obtain ⟨r2, t2, r20, r21⟩ := T (n1 + 1) 5 (by omega) (by decide)
  obtain ⟨k, t3, k0, k1⟩ := T (n1 + 1 + 1) L.jobs.length (by omega) (by omega)
  obtain ⟨r4, t4, r40, r41⟩ := T (n1 + 1 + 1 + 1) 6 (by omega) (by decide)
  obtain ⟨r5, t5, r50, r51⟩ := T (n1 + 1 + 1 + 1 + 1) 8 (by omega) (by decide)
  have em := made_t (turn := 0) (C n1) ok
  refine ⟨bump [Cell.lst [.int 0]] 0 (n1 + 1 + 1 + 1 + 1 + 1), ?_⟩
  unfold A_law
  refine (seq_set (d := .ref 0) (h1 := [.lst [.int 0]]) rfl).trans ?_
  refine (seq_set (d := L.d) (h1 := bump [.lst [.int 0]] 0 n1) (call_e rfl e1)).trans ?_
  refine (seq_set (d := L.o) (h1 := bump [.lst [.int 0]] 0 n1) (call_e rfl em)).trans ?_
  refine (seq_set (d := .int L.jobs.length) (h1 := bump [.lst [.int 0]] 0 n1) (cb_e (cons_e (op_e rfl rfl (dIx_tup (by decide) rfl)) rfl) (by rw [dLen_tup, List.length_map]))).trans ?_
  -- with_slips
  obtain ⟨x1, m1, p1⟩ := pick (δ := [none, some (rowD ms), some (.ref 0), some L.d, some L.o, some (.int L.jobs.length), none, none, none, none]) (h := bump [Cell.lst [.int 0]] 0 n1) (xs := [.int 9, .int (-1), .bl true, .str "0", .tup []]) (t := (aCons (aC (.int 9)) (aCons (aNeg (aC (.int 1))) (aCons (aC (.bl true)) (aCons (aC (.str "0")) (aCons (aTup aNil) aNil)))))) (b := aCall A__law_take (aCons (aVar 1) (aCons (aVar 2) (aCons (aC (.int 5)) aNil)))) rfl (call_e rfl t1) r10 r11
  have f1 : A__law_made_fault [.int 0, L.o, x1, .int 0, .int 0] (bump [Cell.lst [.int 0]] 0 (n1 + 1)) = .ok (tagD "value" (.int 2)) (bump [Cell.lst [.int 0]] 0 (n1 + 1)) := fault_er (C _) rfl (.inl ⟨rfl, rfl⟩) (.inl ⟨rfl, with_slips_er (C _) (slips_bad x1 m1 (C _))⟩)
  refine (seq_no (h1 := bump [.lst [.int 0]] 0 (n1 + 1)) (ne_tag2 (call_e (cons_e rfl (cons_e rfl (cons_e p1 rfl))) f1) rfl s_value)).trans ?_
  -- with_times
  obtain ⟨x2, m2, p2⟩ := pick (δ := [none, some (rowD ms), some (.ref 0), some L.d, some L.o, some (.int L.jobs.length), none, none, none, none]) (h := bump [Cell.lst [.int 0]] 0 (n1 + 1)) (xs := [D.tup ((L.jobs.map pD).drop 1), .tup (L.jobs.map pD ++ [pD (1, 1)]), .non, .int 5, .str "ab"]) (t := (aCons (aSl (aOp dIx (aVar 3) (aC (.int 0))) (aPart (aC (.int 1))) aNo) (aCons (aOp dAdd (aOp dIx (aVar 3) (aC (.int 0))) (aTup (aCons (aTup (aCons (aC (.int 1)) (aCons (aC (.int 1)) aNil))) aNil))) (aCons (aC .non) (aCons (aC (.int 5)) (aCons (aC (.str "ab")) aNil)))))) (b := aCall A__law_take (aCons (aVar 1) (aCons (aVar 2) (aCons (aC (.int 5)) aNil)))) (by
    rw [aVl_e, cons_e (d := .tup ((L.jobs.map pD).drop 1)) (by
      rw [aSl_tup (op_e rfl rfl (dIx_tup (by decide) rfl)) rfl rfl, cut_drop (by decide)]
      rfl) (cons_e (d := .tup (L.jobs.map pD ++ [pD (1, 1)])) (op_e (op_e rfl rfl (dIx_tup (by decide) rfl)) rfl (dAdd_tup (by
        rw [List.length_map, List.length_singleton]
        omega))) rfl)]
    rfl) (call_e rfl t2) r20 r21
  have f2 : A__law_made_fault [.int 1, L.o, x2, .int 0, .int 0] (bump [Cell.lst [.int 0]] 0 (n1 + 1 + 1)) = .ok (tagD "value" (.int 2)) (bump [Cell.lst [.int 0]] 0 (n1 + 1 + 1)) := fault_er (C _) rfl (.inl ⟨rfl, rfl⟩) (.inr (.inl ⟨rfl, times_bad ok x2 m2 (C _)⟩))
  refine (seq_no (h1 := bump [.lst [.int 0]] 0 (n1 + 1 + 1)) (ne_tag2 (call_e (cons_e rfl (cons_e rfl (cons_e p2 rfl))) f2) rfl s_value)).trans ?_
  -- a task
  refine (seq_set (d := .int k) (h1 := bump [.lst [.int 0]] 0 (n1 + 1 + 1 + 1)) (call_e rfl t3)).trans ?_
  obtain ⟨x4, m4, p4⟩ := pick (δ := [none, some (rowD ms), some (.ref 0), some L.d, some L.o, some (.int L.jobs.length), some (.int k), none, none, none]) (h := bump [Cell.lst [.int 0]] 0 (n1 + 1 + 1 + 1)) (xs := [D.tup [.int 2, .int 1], .tup [.int 0, .int 10001], .non, .tup [.int 1], .str "12", .tup [.bl true, .int 2]]) (t := (aCons (aTup (aCons (aC (.int 2)) (aCons (aC (.int 1)) aNil))) (aCons (aTup (aCons (aC (.int 0)) (aCons (aC (.int 10001)) aNil))) (aCons (aC .non) (aCons (aTup (aCons (aC (.int 1)) aNil)) (aCons (aC (.str "12")) (aCons (aTup (aCons (aC (.bl true)) (aCons (aC (.int 2)) aNil))) aNil))))))) (b := aCall A__law_take (aCons (aVar 1) (aCons (aVar 2) (aCons (aC (.int 6)) aNil)))) rfl (call_e rfl t4) r40 r41
  have x4c : x4.clo 0 = true := by
    simp only [List.mem_cons, List.not_mem_nil, or_false] at m4
    rcases m4 with rfl | rfl | rfl | rfl | rfl | rfl <;> rfl
  have es := set_t (xs := L.jobs.map pD) (v := x4) (k := k) (C (n1 + 1 + 1 + 1 + 1)) (clo_pD _) x4c k0 (by rw [List.length_map]; exact k1)
  refine (seq_set (d := .tup ((L.jobs.map pD).set k.toNat x4)) (h1 := bump [.lst [.int 0]] 0 (n1 + 1 + 1 + 1 + 1)) (call_e (cons_e (op_e rfl rfl (dIx_tup (by decide) rfl)) (cons_e rfl (cons_e p4 rfl))) es)).trans ?_
  have hkn : ((k.toNat : Nat) : Int) = k := Int.toNat_of_nonneg k0
  have hkl : k.toNat < L.jobs.length := by omega
  have ect : ∀ hh, HC hh → A_checked_tasks [.tup ((L.jobs.map pD).set k.toNat x4)] hh = .er "BadTask" (.int k) hh := fun hh hc => by
    have := checked_tasks_er (js := []) (q := pD) (k := k.toNat) (ts := (L.jobs.map pD).set k.toNat x4) hc (.inl rfl) (by rw [List.length_set, List.length_map]; exact j1) (by rw [List.length_set, List.length_map]; exact hkl) (fun i y hi hy => by
      rw [List.getElem?_set_ne (by omega), List.getElem?_map] at hy
      obtain ⟨p, hp, rfl⟩ := Option.map_eq_some_iff.mp hy
      exact ⟨p, .inl rfl, ok.jb p (List.mem_of_getElem? hp)⟩) (fun y hy => by
      rw [List.getElem?_set_self (by rw [List.length_map]; exact hkl)] at hy
      cases hy
      exact tasks_bad x4 m4 hc)
    rwa [hkn] at this
  have f3 : A__law_made_fault [.int 1, L.o, .tup ((L.jobs.map pD).set k.toNat x4), .int 0, .int 0] (bump [Cell.lst [.int 0]] 0 (n1 + 1 + 1 + 1 + 1)) = .ok (tagD "task" (.int k)) (bump [Cell.lst [.int 0]] 0 (n1 + 1 + 1 + 1 + 1)) := fault_er (C _) rfl (.inr (.inl ⟨rfl, rfl⟩)) (.inr (.inl ⟨rfl, with_times_er (C _) (.inl rfl) (by rw [List.length_set, List.length_map]) ect rfl⟩))
  have hms : ∀ hh, HC hh → A_is_sequence [.tup (L.kinds.map kindD)] hh = .ok (.bl true) hh ∧ dLen [.tup (L.kinds.map kindD)] hh = .ok (.int L.kinds.length) hh := fun hh hc => ⟨is_sequence_t hc (.inl rfl), by rw [dLen_tup, List.length_map]⟩
  have f4 : A__law_made_fault [.int 3, .tup ((L.jobs.map pD).set k.toNat x4), .tup (L.pairs.map pD), .tup (L.kinds.map kindD), .int 9] (bump [Cell.lst [.int 0]] 0 (n1 + 1 + 1 + 1 + 1)) = .ok (tagD "task" (.int k)) (bump [Cell.lst [.int 0]] 0 (n1 + 1 + 1 + 1 + 1)) := fault_er (C _) rfl (.inr (.inl ⟨rfl, rfl⟩)) (.inr (.inr (.inr ⟨rfl, free_er (k := L.kinds.length) (C _) (.inl (hms _ (C _))) (by have := ok.k1; omega) (init_tasks (k := 0) (C _) ect rfl) rfl⟩)))
  refine (seq_no (h1 := bump [.lst [.int 0]] 0 (n1 + 1 + 1 + 1 + 1)) (or_f (ne_tag (call_e rfl f3) rfl s_task) (ne_tag (call_e (cons_e rfl (cons_e rfl (cons_e (op_e rfl rfl (dIx_tup (by decide) rfl)) (cons_e (op_e rfl rfl (dIx_tup (by decide) rfl)) rfl)))) f4) rfl s_task))).trans ?_
  -- a row
  have e41 := lc_map (h := bump [Cell.lst [.int 0]] 0 (n1 + 1 + 1 + 1 + 1)) (ds := rgD 0 41) (i := 9) (δ := wipA [none, some (rowD ms), some (.ref 0), some L.d, some L.o, some (.int L.jobs.length), some (.int k), some (.tup ((L.jobs.map pD).set k.toNat x4)), none, none] [9]) (te := aC (.int 0)) (f := fun _ => .int 0) (by rw [rgD_length]; omega) (fun z _ => rfl)
  have e41' : aCb dTuple (aCons (aLc (iRg1 (aCons (aC (.int 41)) aNil)) (gNam 9) aYes (aC (.int 0)) [9]) aNil) [none, some (rowD ms), some (.ref 0), some L.d, some L.o, some (.int L.jobs.length), some (.int k), some (.tup ((L.jobs.map pD).set k.toNat x4)), none, none] (bump [Cell.lst [.int 0]] 0 (n1 + 1 + 1 + 1 + 1)) = .ok (.tup ((rgD 0 41).map fun _ => .int 0)) (bump [Cell.lst [.int 0]] 0 (n1 + 1 + 1 + 1 + 1)) := cb_e (cons_e (aLc_rg (n := 41) rfl (by decide) (by decide) e41) rfl) rfl
  refine (seq_set (d := .vl [D.tup [], .non, .int 5, .str "0", .tup [.int L.kinds.length], .tup [.int 0, .int (-1)], .tup [.bl true], .tup ((rgD 0 41).map fun _ => .int 0)]) (h1 := bump [.lst [.int 0]] 0 (n1 + 1 + 1 + 1 + 1)) (by
    exact vl_e (cons_e (d := .tup []) rfl (cons_e (d := .non) rfl (cons_e (d := .int 5) rfl (cons_e (d := .str "0") rfl (cons_e (d := .tup [.int L.kinds.length]) (tup_e (cons_e (cb_e (cons_e (op_e rfl rfl (dIx_tup (by decide) rfl)) rfl) (by rw [dLen_tup, List.length_map])) rfl)) (cons_e (d := .tup [.int 0, .int (-1)]) rfl (cons_e (d := .tup [.bl true]) rfl (cons_e (d := .tup ((rgD 0 41).map fun _ => .int 0)) e41' rfl)))))))))).trans ?_
  obtain ⟨x5, m5, p5⟩ : ∃ x ∈ [D.tup [], .non, .int 5, .str "0", .tup [.int L.kinds.length], .tup [.int 0, .int (-1)], .tup [.bl true], .tup ((rgD 0 41).map fun _ => .int 0)], dIx (.vl [D.tup [], .non, .int 5, .str "0", .tup [.int L.kinds.length], .tup [.int 0, .int (-1)], .tup [.bl true], .tup ((rgD 0 41).map fun _ => .int 0)]) (.int r5) (bump [Cell.lst [.int 0]] 0 (n1 + 1 + 1 + 1 + 1 + 1)) = .ok x (bump [Cell.lst [.int 0]] 0 (n1 + 1 + 1 + 1 + 1 + 1)) := by
    have hr : r5.toNat < [D.tup [], .non, .int 5, .str "0", .tup [.int L.kinds.length], .tup [.int 0, .int (-1)], .tup [.bl true], .tup ((rgD 0 41).map fun _ => .int 0)].length := by
      show r5.toNat < 8
      omega
    exact ⟨_, List.getElem_mem hr, dIx_vl r50 (List.getElem?_eq_getElem hr)⟩
  have f5 : A__law_made_fault [.int 2, L.o, x5, .int 0, .int 0] (bump [Cell.lst [.int 0]] 0 (n1 + 1 + 1 + 1 + 1 + 1)) = .ok (tagD "value" (.int 2)) (bump [Cell.lst [.int 0]] 0 (n1 + 1 + 1 + 1 + 1 + 1)) := fault_er (C _) rfl (.inl ⟨rfl, rfl⟩) (.inr (.inr (.inl ⟨rfl, rows_bad ok x5 m5 (C _)⟩)))
  refine (seq_no (h1 := bump [.lst [.int 0]] 0 (n1 + 1 + 1 + 1 + 1 + 1)) (ne_tag2 (call_e (cons_e rfl (cons_e rfl (cons_e (op_e rfl (call_e rfl t5) p5) rfl))) f5) rfl s_value)).trans ?_
  -- a pair
  obtain ⟨rk, hrk⟩ := ok.pr
  have hp1 := ok.p1
  have f6 : A__law_made_fault [.int 3, .tup (L.jobs.map pD), .tup (L.pairs.map pD ++ [pD (0, 0)]), .non, .int 0] (bump [Cell.lst [.int 0]] 0 (n1 + 1 + 1 + 1 + 1 + 1)) = .ok (tagD "pair" (.int L.pairs.length)) (bump [Cell.lst [.int 0]] 0 (n1 + 1 + 1 + 1 + 1 + 1)) := fault_er (C _) rfl (.inr (.inr (.inl ⟨rfl, rfl⟩))) (.inr (.inr (.inr ⟨rfl, free_er (k := 0) (C _) (.inr ⟨is_sequence_f (S := "NoneType") (C _) rfl (by kernel_rfl) (by kernel_rfl), rfl⟩) (by decide) (init_order (L := L) (C _) ok ⟨pD, .inl rfl, fun p _ => .inl rfl⟩ (fun hh hc => by
    have := checked_order_er hc hrk (by omega) j1 j0
    rw [List.map_append] at this
    exact this) rfl) rfl⟩)))
  refine (seq_no (h1 := bump [.lst [.int 0]] 0 (n1 + 1 + 1 + 1 + 1 + 1)) (ne_tag (call_e (cons_e rfl (cons_e (op_e rfl rfl (dIx_tup (by decide) rfl)) (cons_e (op_e (op_e rfl rfl (dIx_tup (by decide) rfl)) rfl (dAdd_tup (by rw [List.length_map, List.length_singleton]; omega))) rfl))) f6) (tup_e (cons_e rfl (cons_e (cb_e (cons_e (op_e rfl rfl (dIx_tup (by decide) rfl)) rfl) (by rw [dLen_tup, List.length_map])) rfl))) s_pair)).trans ?_
  -- a model
  have hk1 := ok.k1
  have hk0 := ok.k0
  have f7 : A__law_made_fault [.int 3, .tup (L.jobs.map pD), .tup (L.pairs.map pD), .tup (L.kinds.map kindD ++ [.tup [.int L.jobs.length]]), .int 0] (bump [Cell.lst [.int 0]] 0 (n1 + 1 + 1 + 1 + 1 + 1)) = .ok (tagD "model" (.int L.kinds.length)) (bump [Cell.lst [.int 0]] 0 (n1 + 1 + 1 + 1 + 1 + 1)) := fault_er (C _) rfl (.inr (.inr (.inr ⟨rfl, rfl⟩))) (.inr (.inr (.inr ⟨rfl, free_er (k := L.kinds.length + 1) (C _) (.inl ⟨is_sequence_t (C _) (.inl rfl), by rw [dLen_tup, List.length_append, List.length_map, List.length_singleton]⟩) (by omega) (init_models (L := L) (C _) ok ⟨pD, .inl rfl, fun p _ => .inl rfl⟩ ⟨pD, .inl rfl, fun p _ => .inl rfl⟩ (fun hh hc => checked_models_er (ks := []) (q := kindD) (k := L.kinds.length) hc (.inl rfl) (by
      rw [List.length_append, List.length_map, List.length_singleton]
      omega) (by rw [List.length_append, List.length_map, List.length_singleton]; omega) (fun i y hi hy => by
      rw [List.getElem?_append_left (by rw [List.length_map]; exact hi), List.getElem?_map] at hy
      obtain ⟨z, hz, rfl⟩ := Option.map_eq_some_iff.mp hy
      exact ⟨z, .inl rfl, ok.kd z (List.mem_of_getElem? hz)⟩) (fun y hy => by
      rw [List.getElem?_append_right (by rw [List.length_map]; exact Nat.le_refl _), List.length_map, Nat.sub_self] at hy
      cases hy
      exact ascending_f hc)) rfl) rfl⟩)))
  refine (seq_no (h1 := bump [.lst [.int 0]] 0 (n1 + 1 + 1 + 1 + 1 + 1)) (ne_tag (call_e (cons_e rfl (cons_e (op_e rfl rfl (dIx_tup (by decide) rfl)) (cons_e (op_e rfl rfl (dIx_tup (by decide) rfl)) (cons_e (op_e (op_e rfl rfl (dIx_tup (by decide) rfl)) rfl (dAdd_tup (by rw [List.length_map, List.length_singleton]; omega))) rfl)))) f7) (tup_e (cons_e rfl (cons_e (cb_e (cons_e (op_e rfl rfl (dIx_tup (by decide) rfl)) rfl) (by rw [dLen_tup, List.length_map])) rfl))) s_model)).trans ?_
  -- slips
  have hno : ∀ i, (none : Option Int) = some i → 0 ≤ i ∧ i ≤ 8 := fun i z => by cases z
  have okf := free_ok_ (o := none) ok hno
  have f8 : A__law_made_fault [.int 3, .tup (L.jobs.map pD), .tup (L.pairs.map pD), .tup (L.kinds.map kindD), .int 9] (bump [Cell.lst [.int 0]] 0 (n1 + 1 + 1 + 1 + 1 + 1)) = .ok (tagD "value" (.int 6)) (bump [Cell.lst [.int 0]] 0 (n1 + 1 + 1 + 1 + 1 + 1)) := fault_er (C _) rfl (.inl ⟨rfl, rfl⟩) (.inr (.inr (.inr ⟨rfl, free_er (k := L.kinds.length) (C _) (.inl (hms _ (C _))) (by omega) (init_slips (L := L.free none) (C _) okf (args_free L none) (fun hh hc => slips_bad _ List.mem_cons_self hc)) rfl⟩)))
  have f9 : A__law_made_fault [.int 3, .tup (L.jobs.map pD), .tup (L.pairs.map pD), .tup (L.kinds.map kindD), .non] (bump [Cell.lst [.int 0]] 0 (n1 + 1 + 1 + 1 + 1 + 1)) = .ok .non (bump [Cell.lst [.int 0]] 0 (n1 + 1 + 1 + 1 + 1 + 1)) := fault_ok (C _) (free_ok (k := L.kinds.length) (vs := (L.free none).vs) (C _) (hms _ (C _)) (by omega) (init_t (L := L.free none) (C _) okf (args_free L none)) (LineV.vs_clo _))
  refine ret_e (andV_t (op_e (call_e (cons_e rfl (cons_e (op_e rfl rfl (dIx_tup (by decide) rfl)) (cons_e (op_e rfl rfl (dIx_tup (by decide) rfl)) (cons_e (op_e rfl rfl (dIx_tup (by decide) rfl)) rfl)))) f8) rfl (eq_tag (neg := false) s_value)) ?_)
  exact op_e (call_e (cons_e rfl (cons_e (op_e rfl rfl (dIx_tup (by decide) rfl)) (cons_e (op_e rfl rfl (dIx_tup (by decide) rfl)) (cons_e (op_e rfl rfl (dIx_tup (by decide) rfl)) rfl)))) f9) rfl rfl
end Mr
namespace Mr
open PySem PySem.Spec PyProof.Rows L2 Aq
def topS (i : Nat) : Stmt := PySem.Challenge.pw_anyrowline_k06_refusals_of_made_lines.main.body.getD i (.Pass ⟨0, 0, 0, 0⟩)
abbrev s__law_numbers : Stmt := topS 40
theorem sc__law_numbers : FnScope ["script", "row", "cell", "left", "k", "mixed"] ["script"] (defScope s__law_numbers) := ⟨rfl, rfl, rfl, by decide +kernel, rfl, by decide +kernel, by decide +kernel⟩
abbrev s__law_draw : Stmt := topS 41
theorem sc__law_draw : FnScope ["row", "at", "limit", "mixed"] ["row", "at", "limit"] (defScope s__law_draw) := ⟨rfl, rfl, rfl, by decide +kernel, rfl, by decide +kernel, by decide +kernel⟩
abbrev s__law_take : Stmt := topS 42
theorem sc__law_take : FnScope ["row", "spot", "limit"] ["row", "spot", "limit"] (defScope s__law_take) := ⟨rfl, rfl, rfl, by decide +kernel, rfl, by decide +kernel, by decide +kernel⟩
abbrev s__law_wide : Stmt := topS 43
theorem sc__law_wide : FnScope ["row", "spot", "limit", "first", "second", "third"] ["row", "spot", "limit"] (defScope s__law_wide) := ⟨rfl, rfl, rfl, by decide +kernel, rfl, by decide +kernel, by decide +kernel⟩
abbrev s__law_time : Stmt := topS 47
theorem sc__law_time : FnScope ["row", "spot", "style"] ["row", "spot", "style"] (defScope s__law_time) := ⟨rfl, rfl, rfl, by decide +kernel, rfl, by decide +kernel, by decide +kernel⟩
abbrev s__law_task : Stmt := topS 48
theorem sc__law_task : FnScope ["row", "spot", "style", "usual"] ["row", "spot", "style"] (defScope s__law_task) := ⟨rfl, rfl, rfl, by decide +kernel, rfl, by decide +kernel, by decide +kernel⟩
abbrev s__law_mixed : Stmt := topS 46
theorem sc__law_mixed : FnScope ["row", "spot", "things", "left", "made", "k", "at"] ["row", "spot", "things"] (defScope s__law_mixed) := ⟨rfl, rfl, rfl, by decide +kernel, rfl, by decide +kernel, by decide +kernel⟩
abbrev s__law_pairs_of : Stmt := topS 49
theorem sc__law_pairs_of : FnScope ["row", "spot", "count", "many", "spots", "made", "k", "one", "other", "pair"] ["row", "spot", "count", "many"] (defScope s__law_pairs_of) := ⟨rfl, rfl, rfl, by decide +kernel, rfl, by decide +kernel, by decide +kernel⟩
abbrev s__law_model : Stmt := topS 50
theorem sc__law_model : FnScope ["row", "spot", "count", "style", "k"] ["row", "spot", "count"] (defScope s__law_model) := ⟨rfl, rfl, rfl, by decide +kernel, rfl, by decide +kernel, by decide +kernel⟩
abbrev s__law_states : Stmt := topS 51
theorem sc__law_states : FnScope ["row", "spot", "models", "wide", "many", "count", "made", "k", "arcs", "j", "arc"] ["row", "spot", "models", "wide", "many"] (defScope s__law_states) := ⟨rfl, rfl, rfl, by decide +kernel, rfl, by decide +kernel, by decide +kernel⟩
abbrev s__law_line : Stmt := topS 52
theorem sc__law_line : FnScope ["row", "spot", "tasks", "wide", "many", "slips", "style", "count", "jobs", "pairs", "kinds", "states", "start", "left", "k"] ["row", "spot", "tasks", "wide", "many", "slips"] (defScope s__law_line) := ⟨rfl, rfl, rfl, by decide +kernel, rfl, by decide +kernel, by decide +kernel⟩
abbrev s__law_case : Stmt := topS 55
theorem sc__law_case : FnScope ["row", "spot", "style"] ["row", "spot"] (defScope s__law_case) := ⟨rfl, rfl, rfl, by decide +kernel, rfl, by decide +kernel, by decide +kernel⟩
abbrev s__law_loose : Stmt := topS 44
theorem sc__law_loose : FnScope ["value", "turn", "made", "one"] ["value", "turn"] (defScope s__law_loose) := ⟨rfl, rfl, rfl, by decide +kernel, rfl, by decide +kernel, by decide +kernel⟩
abbrev s_is_sequence : Stmt := topS 11
theorem sc_is_sequence : FnScope ["value"] ["value"] (defScope s_is_sequence) := ⟨rfl, rfl, rfl, by decide +kernel, rfl, by decide +kernel, by decide +kernel⟩
abbrev s_has_length : Stmt := topS 12
theorem sc_has_length : FnScope ["value", "low", "high"] ["value", "low", "high"] (defScope s_has_length) := ⟨rfl, rfl, rfl, by decide +kernel, rfl, by decide +kernel, by decide +kernel⟩
abbrev s_is_integer : Stmt := topS 9
theorem sc_is_integer : FnScope ["value"] ["value"] (defScope s_is_integer) := ⟨rfl, rfl, rfl, by decide +kernel, rfl, by decide +kernel, by decide +kernel⟩
abbrev s_is_within : Stmt := topS 10
theorem sc_is_within : FnScope ["value", "low", "high"] ["value", "low", "high"] (defScope s_is_within) := ⟨rfl, rfl, rfl, by decide +kernel, rfl, by decide +kernel, by decide +kernel⟩
abbrev s_is_task : Stmt := topS 26
theorem sc_is_task : FnScope ["value", "usual", "upper"] ["value"] (defScope s_is_task) := ⟨rfl, rfl, rfl, by decide +kernel, rfl, by decide +kernel, by decide +kernel⟩
abbrev s_checked_tasks : Stmt := topS 27
theorem sc_checked_tasks : FnScope ["tasks", "at", "task"] ["tasks"] (defScope s_checked_tasks) := ⟨rfl, rfl, rfl, by decide +kernel, rfl, by decide +kernel, by decide +kernel⟩
abbrev s_are_within : Stmt := topS 13
theorem sc_are_within : FnScope ["value", "low", "high", "number"] ["value", "low", "high"] (defScope s_are_within) := ⟨rfl, rfl, rfl, by decide +kernel, rfl, by decide +kernel, by decide +kernel⟩
abbrev s_is_pair : Stmt := topS 28
theorem sc_is_pair : FnScope ["value", "tasks"] ["value", "tasks"] (defScope s_is_pair) := ⟨rfl, rfl, rfl, by decide +kernel, rfl, by decide +kernel, by decide +kernel⟩
abbrev s_put_behind : Stmt := topS 30
theorem sc_put_behind : FnScope ["behind", "before", "after", "later", "task"] ["behind", "before", "after"] (defScope s_put_behind) := ⟨rfl, rfl, rfl, by decide +kernel, rfl, by decide +kernel, by decide +kernel⟩
abbrev s_checked_order : Stmt := topS 29
theorem sc_checked_order : FnScope ["order", "tasks", "kept", "behind", "at", "pair", "before", "after"] ["order", "tasks"] (defScope s_checked_order) := ⟨rfl, rfl, rfl, by decide +kernel, rfl, by decide +kernel, by decide +kernel⟩
abbrev s_is_ascending : Stmt := topS 14
theorem sc_is_ascending : FnScope ["value", "many", "least", "number"] ["value", "many"] (defScope s_is_ascending) := ⟨rfl, rfl, rfl, by decide +kernel, rfl, by decide +kernel, by decide +kernel⟩
abbrev s_checked_models : Stmt := topS 31
theorem sc_checked_models : FnScope ["models", "tasks", "at", "model"] ["models", "tasks"] (defScope s_checked_models) := ⟨rfl, rfl, rfl, by decide +kernel, rfl, by decide +kernel, by decide +kernel⟩
abbrev s_is_arc : Stmt := topS 32
theorem sc_is_arc : FnScope ["value", "models", "states"] ["value", "models", "states"] (defScope s_is_arc) := ⟨rfl, rfl, rfl, by decide +kernel, rfl, by decide +kernel, by decide +kernel⟩
abbrev s_is_state : Stmt := topS 33
theorem sc_is_state : FnScope ["value", "models", "states", "seen", "arc"] ["value", "models", "states"] (defScope s_is_state) := ⟨rfl, rfl, rfl, by decide +kernel, rfl, by decide +kernel, by decide +kernel⟩
abbrev s_checked_states : Stmt := topS 34
theorem sc_checked_states : FnScope ["states", "models", "at", "state", "arc"] ["states", "models"] (defScope s_checked_states) := ⟨rfl, rfl, rfl, by decide +kernel, rfl, by decide +kernel, by decide +kernel⟩
abbrev s_is_slips : Stmt := topS 25
theorem sc_is_slips : FnScope ["value"] ["value"] (defScope s_is_slips) := ⟨rfl, rfl, rfl, by decide +kernel, rfl, by decide +kernel, by decide +kernel⟩
abbrev s_Line___init__ : Stmt := inClass (topS 24) 0
theorem sc_Line___init__ : FnScope ["self", "tasks", "order", "models", "states", "start", "slips", "kept_tasks", "kept_order", "kept_models", "kept_states"] ["self", "tasks", "order", "models", "states", "start", "slips"] (defScope s_Line___init__) := ⟨rfl, rfl, rfl, by decide +kernel, rfl, by decide +kernel, by decide +kernel⟩
abbrev s__law_made : Stmt := topS 53
theorem sc__law_made : FnScope ["line", "turn", "jobs"] ["line", "turn"] (defScope s__law_made) := ⟨rfl, rfl, rfl, by decide +kernel, rfl, by decide +kernel, by decide +kernel⟩
abbrev s_with_slips : Stmt := topS 35
theorem sc_with_slips : FnScope ["line", "slips"] ["line", "slips"] (defScope s_with_slips) := ⟨rfl, rfl, rfl, by decide +kernel, rfl, by decide +kernel, by decide +kernel⟩
abbrev s_with_times : Stmt := topS 36
theorem sc_with_times : FnScope ["line", "tasks"] ["line", "tasks"] (defScope s_with_times) := ⟨rfl, rfl, rfl, by decide +kernel, rfl, by decide +kernel, by decide +kernel⟩
abbrev s_repeated : Stmt := topS 38
theorem sc_repeated : FnScope ["line", "row", "last", "states", "at", "model"] ["line", "row"] (defScope s_repeated) := ⟨rfl, rfl, rfl, by decide +kernel, rfl, by decide +kernel, by decide +kernel⟩
abbrev s_free_line : Stmt := topS 37
theorem sc_free_line : FnScope ["tasks", "order", "models", "slips", "many", "state", "model"] ["tasks", "order", "models", "slips"] (defScope s_free_line) := ⟨rfl, rfl, rfl, by decide +kernel, rfl, by decide +kernel, by decide +kernel⟩
abbrev s__law_made_fault : Stmt := topS 54
theorem sc__law_made_fault : FnScope ["kind", "first", "second", "third", "fourth", "error"] ["kind", "first", "second", "third", "fourth"] (defScope s__law_made_fault) := ⟨rfl, rfl, rfl, by decide +kernel, rfl, by decide +kernel, by decide +kernel⟩
abbrev s__law_set : Stmt := topS 45
theorem sc__law_set : FnScope ["values", "at", "value", "made"] ["values", "at", "value"] (defScope s__law_set) := ⟨rfl, rfl, rfl, by decide +kernel, rfl, by decide +kernel, by decide +kernel⟩
abbrev s_law : Stmt := topS 56
theorem sc_law : FnScope ["script", "row", "spot", "line", "made", "count", "at", "bad", "rows", "k"] ["script"] (defScope s_law) := ⟨rfl, rfl, rfl, by decide +kernel, rfl, by decide +kernel, by decide +kernel⟩
abbrev s_Line_tasks : Stmt := inClass (topS 24) 1
theorem sc_Line_tasks : FnScope ["self"] ["self"] (defScope s_Line_tasks) := ⟨rfl, rfl, rfl, by decide +kernel, rfl, by decide +kernel, by decide +kernel⟩
abbrev s_Line_order : Stmt := inClass (topS 24) 2
theorem sc_Line_order : FnScope ["self"] ["self"] (defScope s_Line_order) := ⟨rfl, rfl, rfl, by decide +kernel, rfl, by decide +kernel, by decide +kernel⟩
abbrev s_Line_models : Stmt := inClass (topS 24) 3
theorem sc_Line_models : FnScope ["self"] ["self"] (defScope s_Line_models) := ⟨rfl, rfl, rfl, by decide +kernel, rfl, by decide +kernel, by decide +kernel⟩
abbrev s_Line_states : Stmt := inClass (topS 24) 4
theorem sc_Line_states : FnScope ["self"] ["self"] (defScope s_Line_states) := ⟨rfl, rfl, rfl, by decide +kernel, rfl, by decide +kernel, by decide +kernel⟩
abbrev s_Line_start : Stmt := inClass (topS 24) 5
theorem sc_Line_start : FnScope ["self"] ["self"] (defScope s_Line_start) := ⟨rfl, rfl, rfl, by decide +kernel, rfl, by decide +kernel, by decide +kernel⟩
abbrev s_Line_slips : Stmt := inClass (topS 24) 6
theorem sc_Line_slips : FnScope ["self"] ["self"] (defScope s_Line_slips) := ⟨rfl, rfl, rfl, by decide +kernel, rfl, by decide +kernel, by decide +kernel⟩
structure Tx (K : PySem.W.Frag) (mg : Str → Option Value) (kc : Str → Addr) : Prop where
  z_range : mg "range" = none
  z_int : mg "int" = none
  z_len : mg "len" = none
  z_min : mg "min" = none
  z_list : mg "list" = none
  z_max : mg "max" = none
  z_tuple : mg "tuple" = none
  z_isinstance : mg "isinstance" = none
  z_bool : mg "bool" = none
  z_enumerate : mg "enumerate" = none
  z_all : mg "all" = none
  m_MOST_TIME : ∃ u, mg "MOST_TIME" = some u ∧ RelV (.int 10000) u
  m_MOST_TASKS : ∃ u, mg "MOST_TASKS" = some u ∧ RelV (.int 24) u
  m_MOST_PAIRS : ∃ u, mg "MOST_PAIRS" = some u ∧ RelV (.int 200) u
  m_MOST_MODELS : ∃ u, mg "MOST_MODELS" = some u ∧ RelV (.int 8) u
  m_MOST_ARCS : ∃ u, mg "MOST_ARCS" = some u ∧ RelV (.int 40) u
  m_MOST_STATES : ∃ u, mg "MOST_STATES" = some u ∧ RelV (.int 60) u
  m_MOST_SLIPS : ∃ u, mg "MOST_SLIPS" = some u ∧ RelV (.int 8) u
  m_MOST_REPEATED : ∃ u, mg "MOST_REPEATED" = some u ∧ RelV (.int 40) u
  d__law_numbers : Df K mg "_law_numbers" s__law_numbers ["script"]
  d__law_draw : Df K mg "_law_draw" s__law_draw ["row", "at", "limit"]
  d__law_take : Df K mg "_law_take" s__law_take ["row", "spot", "limit"]
  d__law_wide : Df K mg "_law_wide" s__law_wide ["row", "spot", "limit"]
  d__law_time : Df K mg "_law_time" s__law_time ["row", "spot", "style"]
  d__law_task : Df K mg "_law_task" s__law_task ["row", "spot", "style"]
  d__law_mixed : Df K mg "_law_mixed" s__law_mixed ["row", "spot", "things"]
  d__law_pairs_of : Df K mg "_law_pairs_of" s__law_pairs_of ["row", "spot", "count", "many"]
  d__law_model : Df K mg "_law_model" s__law_model ["row", "spot", "count"]
  d__law_states : Df K mg "_law_states" s__law_states ["row", "spot", "models", "wide", "many"]
  d__law_line : Df K mg "_law_line" s__law_line ["row", "spot", "tasks", "wide", "many", "slips"]
  d__law_case : Df K mg "_law_case" s__law_case ["row", "spot"]
  d__law_loose : Df K mg "_law_loose" s__law_loose ["value", "turn"]
  d_is_sequence : Df K mg "is_sequence" s_is_sequence ["value"]
  d_has_length : Df K mg "has_length" s_has_length ["value", "low", "high"]
  d_is_integer : Df K mg "is_integer" s_is_integer ["value"]
  d_is_within : Df K mg "is_within" s_is_within ["value", "low", "high"]
  d_is_task : Df K mg "is_task" s_is_task ["value"]
  d_checked_tasks : Df K mg "checked_tasks" s_checked_tasks ["tasks"]
  d_are_within : Df K mg "are_within" s_are_within ["value", "low", "high"]
  d_is_pair : Df K mg "is_pair" s_is_pair ["value", "tasks"]
  d_put_behind : Df K mg "put_behind" s_put_behind ["behind", "before", "after"]
  d_checked_order : Df K mg "checked_order" s_checked_order ["order", "tasks"]
  d_is_ascending : Df K mg "is_ascending" s_is_ascending ["value", "many"]
  d_checked_models : Df K mg "checked_models" s_checked_models ["models", "tasks"]
  d_is_arc : Df K mg "is_arc" s_is_arc ["value", "models", "states"]
  d_is_state : Df K mg "is_state" s_is_state ["value", "models", "states"]
  d_checked_states : Df K mg "checked_states" s_checked_states ["states", "models"]
  d_is_slips : Df K mg "is_slips" s_is_slips ["value"]
  d__law_made : Df K mg "_law_made" s__law_made ["line", "turn"]
  d_with_slips : Df K mg "with_slips" s_with_slips ["line", "slips"]
  d_with_times : Df K mg "with_times" s_with_times ["line", "tasks"]
  d_repeated : Df K mg "repeated" s_repeated ["line", "row"]
  d__law_made_fault : Df K mg "_law_made_fault" s__law_made_fault ["kind", "first", "second", "third", "fourth"]
  d__law_set : Df K mg "_law_set" s__law_set ["values", "at", "value"]
  g_BadValue : mg "BadValue" = some (.ref (kc "BadValue"))
  e_BadValue : ErT K mg kc "BadValue" "at"
  t_BadValue : ∃ qual fI, PySem.Err.Txt K mg "BadValue" qual "at" (kc "BadValue") fI
  g_TooMany : mg "TooMany" = some (.ref (kc "TooMany"))
  e_TooMany : ErT K mg kc "TooMany" "word"
  t_TooMany : ∃ qual fI, PySem.Err.Txt K mg "TooMany" qual "word" (kc "TooMany") fI
  g_BadTask : mg "BadTask" = some (.ref (kc "BadTask"))
  e_BadTask : ErT K mg kc "BadTask" "at"
  t_BadTask : ∃ qual fI, PySem.Err.Txt K mg "BadTask" qual "at" (kc "BadTask") fI
  g_BadPair : mg "BadPair" = some (.ref (kc "BadPair"))
  e_BadPair : ErT K mg kc "BadPair" "at"
  t_BadPair : ∃ qual fI, PySem.Err.Txt K mg "BadPair" qual "at" (kc "BadPair") fI
  g_BadModel : mg "BadModel" = some (.ref (kc "BadModel"))
  e_BadModel : ErT K mg kc "BadModel" "at"
  t_BadModel : ∃ qual fI, PySem.Err.Txt K mg "BadModel" qual "at" (kc "BadModel") fI
  g_BadState : mg "BadState" = some (.ref (kc "BadState"))
  e_BadState : ErT K mg kc "BadState" "at"
  t_BadState : ∃ qual fI, PySem.Err.Txt K mg "BadState" qual "at" (kc "BadState") fI
  ex : ExmA K kc errCs
  cl_Line : Cls K (kc "Line")
  f__tasks : FldOk K kc ["Line"] "_tasks"
  p_tasks : ∃ p a fd, PropOf K (kc "Line") "tasks" p a ∧ Fun K "tasks" "Line.tasks" s_Line_tasks a fd ∧ Binds K fd ["self"] []
  f__order : FldOk K kc ["Line"] "_order"
  p_order : ∃ p a fd, PropOf K (kc "Line") "order" p a ∧ Fun K "order" "Line.order" s_Line_order a fd ∧ Binds K fd ["self"] []
  f__models : FldOk K kc ["Line"] "_models"
  p_models : ∃ p a fd, PropOf K (kc "Line") "models" p a ∧ Fun K "models" "Line.models" s_Line_models a fd ∧ Binds K fd ["self"] []
  f__states : FldOk K kc ["Line"] "_states"
  p_states : ∃ p a fd, PropOf K (kc "Line") "states" p a ∧ Fun K "states" "Line.states" s_Line_states a fd ∧ Binds K fd ["self"] []
  f__start : FldOk K kc ["Line"] "_start"
  p_start : ∃ p a fd, PropOf K (kc "Line") "start" p a ∧ Fun K "start" "Line.start" s_Line_start a fd ∧ Binds K fd ["self"] []
  f__slips : FldOk K kc ["Line"] "_slips"
  p_slips : ∃ p a fd, PropOf K (kc "Line") "slips" p a ∧ Fun K "slips" "Line.slips" s_Line_slips a fd ∧ Binds K fd ["self"] []
  g_Line : mg "Line" = some (.ref (kc "Line"))
  i_Line : ∃ f fd, Mk K (kc "Line") f ∧ FunD K "__init__" "Line.__init__" (defArgs s_Line___init__) (defBody s_Line___init__) (defScope s_Line___init__) [] [("slips", V.int 0)] f fd
  i_free_line : ∃ f fd, FunD K "free_line" "free_line" (defArgs s_free_line) (defBody s_free_line) (defScope s_free_line) [] [("slips", V.int 0)] f fd ∧ mg "free_line" = some (.ref f)
section
variable {P : Program} {w : World} {K : PySem.W.Frag} {mg : Str → Option Value} {base : Heap} {kc : Str → Addr}
theorem Tx.q_tasks (T : Tx K mg kc) : PrpA P w K mg base (kc "Line") "tasks" "_tasks" := by
  obtain ⟨p, a, fd, hp, F, b⟩ := T.p_tasks
  refine ⟨p, a, fd, hp, F.ok sc_Line_tasks (fun vs H Q E h => ?_) (fun cdv A outer s H vs Q E hr h => ?_), b⟩
  · obtain ⟨x, dx, fs, v, rfl, _⟩ := h
    rfl
  obtain ⟨x, dx, fs, v, rfl, hx, hl, q⟩ := h
  exact ⟨_, (pss_one (ps_ret (pe_fld (pv 0) rfl))), ⟨_, rfl, x, _, dx, fs, v, rfl, hx, T.cl_Line, (T.f__tasks "Line" List.mem_cons_self).2, hl, q⟩⟩
theorem Tx.q_order (T : Tx K mg kc) : PrpA P w K mg base (kc "Line") "order" "_order" := by
  obtain ⟨p, a, fd, hp, F, b⟩ := T.p_order
  refine ⟨p, a, fd, hp, F.ok sc_Line_order (fun vs H Q E h => ?_) (fun cdv A outer s H vs Q E hr h => ?_), b⟩
  · obtain ⟨x, dx, fs, v, rfl, _⟩ := h
    rfl
  obtain ⟨x, dx, fs, v, rfl, hx, hl, q⟩ := h
  exact ⟨_, (pss_one (ps_ret (pe_fld (pv 0) rfl))), ⟨_, rfl, x, _, dx, fs, v, rfl, hx, T.cl_Line, (T.f__order "Line" List.mem_cons_self).2, hl, q⟩⟩
theorem Tx.q_models (T : Tx K mg kc) : PrpA P w K mg base (kc "Line") "models" "_models" := by
  obtain ⟨p, a, fd, hp, F, b⟩ := T.p_models
  refine ⟨p, a, fd, hp, F.ok sc_Line_models (fun vs H Q E h => ?_) (fun cdv A outer s H vs Q E hr h => ?_), b⟩
  · obtain ⟨x, dx, fs, v, rfl, _⟩ := h
    rfl
  obtain ⟨x, dx, fs, v, rfl, hx, hl, q⟩ := h
  exact ⟨_, (pss_one (ps_ret (pe_fld (pv 0) rfl))), ⟨_, rfl, x, _, dx, fs, v, rfl, hx, T.cl_Line, (T.f__models "Line" List.mem_cons_self).2, hl, q⟩⟩
theorem Tx.q_states (T : Tx K mg kc) : PrpA P w K mg base (kc "Line") "states" "_states" := by
  obtain ⟨p, a, fd, hp, F, b⟩ := T.p_states
  refine ⟨p, a, fd, hp, F.ok sc_Line_states (fun vs H Q E h => ?_) (fun cdv A outer s H vs Q E hr h => ?_), b⟩
  · obtain ⟨x, dx, fs, v, rfl, _⟩ := h
    rfl
  obtain ⟨x, dx, fs, v, rfl, hx, hl, q⟩ := h
  exact ⟨_, (pss_one (ps_ret (pe_fld (pv 0) rfl))), ⟨_, rfl, x, _, dx, fs, v, rfl, hx, T.cl_Line, (T.f__states "Line" List.mem_cons_self).2, hl, q⟩⟩
theorem Tx.q_start (T : Tx K mg kc) : PrpA P w K mg base (kc "Line") "start" "_start" := by
  obtain ⟨p, a, fd, hp, F, b⟩ := T.p_start
  refine ⟨p, a, fd, hp, F.ok sc_Line_start (fun vs H Q E h => ?_) (fun cdv A outer s H vs Q E hr h => ?_), b⟩
  · obtain ⟨x, dx, fs, v, rfl, _⟩ := h
    rfl
  obtain ⟨x, dx, fs, v, rfl, hx, hl, q⟩ := h
  exact ⟨_, (pss_one (ps_ret (pe_fld (pv 0) rfl))), ⟨_, rfl, x, _, dx, fs, v, rfl, hx, T.cl_Line, (T.f__start "Line" List.mem_cons_self).2, hl, q⟩⟩
theorem Tx.q_slips (T : Tx K mg kc) : PrpA P w K mg base (kc "Line") "slips" "_slips" := by
  obtain ⟨p, a, fd, hp, F, b⟩ := T.p_slips
  refine ⟨p, a, fd, hp, F.ok sc_Line_slips (fun vs H Q E h => ?_) (fun cdv A outer s H vs Q E hr h => ?_), b⟩
  · obtain ⟨x, dx, fs, v, rfl, _⟩ := h
    rfl
  obtain ⟨x, dx, fs, v, rfl, hx, hl, q⟩ := h
  exact ⟨_, (pss_one (ps_ret (pe_fld (pv 0) rfl))), ⟨_, rfl, x, _, dx, fs, v, rfl, hx, T.cl_Line, (T.f__slips "Line" List.mem_cons_self).2, hl, q⟩⟩
end
end Mr
namespace Mr
open PySem PySem.Spec PyProof.Rows L2 Aq
theorem cut_mem {xs : List V} {lo hi : Option Int} {i : Nat} {x : V} (h : (cutV xs lo hi)[i]? = some x) : x ∈ xs := by
  have h1 : x ∈ cutV xs lo hi := List.mem_of_getElem? h
  unfold cutV at h1
  exact List.mem_of_mem_drop (List.mem_of_mem_take h1)
section
variable {P : Program} {w : World} {K : PySem.W.Frag} {mg : Str → Option Value} {base : Heap} {kc : Str → Addr}
theorem cx_numbers (T : Tx K mg kc) : CalX P w K mg base 1 "_law_numbers" (spNumbers K) := by
  refine T.d__law_numbers.calX sc__law_numbers (fun vs H Q E h => ?_) (fun f cdv A outer s H vs Q E hr h => ?_)
  · obtain ⟨a, ns, rfl, _⟩ := h
    rfl
  obtain ⟨a, ns, rfl, hS, hl, q⟩ := h
  refine ⟨_, (pss_cons (ps_set (i := 1) sc__law_numbers.nd rfl (.inl rfl) (pe_lst pa_nil))
  (pss_cons (ps_for (passes_of rfl) rfl (pi_list (pe_slice sl_list (pv 0) po_none (po_some pe_int))) (pg_name (i := 2) sc__law_numbers.nd rfl (.inl rfl))
    (pss_one (ps_if (pt_cmpR op_ge (pv 2) (pe_op op_pow pe_int pe_int) (nomark _))
    (pss_cons (ps_set (i := 3) sc__law_numbers.nd rfl (.inl rfl) (pv 2))
  (pss_one (ps_for (passes_of rfl) rfl (pi_range1 (by rfl) T.z_range (pa_cons pe_int pa_nil)) (pg_name (i := 4) sc__law_numbers.nd rfl (.inl rfl))
    (pss_cons (ps_if (pt_cmpR op_eq (pv 3) pe_int (nomark _))
    (pss_one ps_break)
    pss_nil)
  (pss_cons (ps_expr (pe_bm PySem.F.plainAttrs_list PySem.F.slot_list_append PySem.F.type_list_append mt_append (pv 1) (pa_cons (pe_op op_mod (pe_callTy call_int1 (by rfl) T.z_int (by decide +kernel) (pa_cons (pv 3) pa_nil)) pe_int) pa_nil)))
  (pss_one (ps_set (i := 3) sc__law_numbers.nd rfl (.inl rfl) (pe_op op_fdiv (pv 3) pe_int))))))))
    (pss_one (ps_for (passes_of rfl) rfl (pi_range1 (by rfl) T.z_range (pa_cons pe_int pa_nil)) (pg_name (i := 4) sc__law_numbers.nd rfl (.inl rfl))
    (pss_cons (ps_set (i := 5) sc__law_numbers.nd rfl (.inl rfl) (pe_op op_mod (pe_callTy call_int1 (by rfl) T.z_int (by decide +kernel) (pa_cons (pe_op op_add (pe_op op_add (pe_op op_mul (pv 2) pe_int) (pe_op op_mul (pv 4) pe_int)) pe_int) pa_nil)) pe_int))
  (pss_one (ps_expr (pe_bm PySem.F.plainAttrs_list PySem.F.slot_list_append PySem.F.type_list_append mt_append (pv 1) (pa_cons (pe_op op_mod (pe_callTy call_int1 (by rfl) T.z_int (by decide +kernel) (pa_cons (pe_op op_add (pe_op op_mul (pv 5) pe_int) (pv 4)) pa_nil)) pe_int) pa_nil))))))))))
  (pss_cons (ps_if (pt_cmpR op_eq (pe_callB call_len_seq (by rfl) T.z_len (by decide +kernel) (pa_cons (pv 1) pa_nil)) pe_int (nomark _))
    (pss_one (ps_expr (pe_bm PySem.F.plainAttrs_list PySem.F.slot_list_append PySem.F.type_list_append mt_append (pv 1) (pa_cons pe_int pa_nil))))
    pss_nil)
  (pss_one (ps_ret (pv 1)))))), ?_⟩
  -- row = []
  refine ⟨Nat.zero_le _, fun o no => ?_⟩
  have s1 : Same H (upd H o (.lst [])) := grow no
  -- script[:63]
  refine ⟨.ref a, rfl, 63, rfl, a, ns.map V.int, rfl, s1.seq hS, fun c nc => ?_⟩
  have s2 : Same (upd H o (.lst [])) (upd (upd H o (.lst [])) c (.lst (cutV (ns.map V.int) none (some 63)))) := grow nc
  have nco : c ≠ o := fun e => by
    rw [e, upd_same] at nc
    cases nc
  have hcl : (cutV (ns.map V.int) none (some 63)).length ≤ 63 := by
    have := cutV_length (ns.map V.int) none (some 63)
    rw [List.length_map] at this
    omega
  refine ⟨c, rfl, ⟨_, SqL.of upd_same⟩, for_list (K := K) (a := c) (xs := cutV (ns.map V.int) none (some 63))
    (fun i σ H' => ∃ y2 y3 y4 y5, ∃ ms : List Int, σ = [some (.ref a), some (.ref o), y2, y3, y4, y5] ∧ Same H H' ∧ H' c = some (.lst (cutV (ns.map V.int) none (some 63))) ∧ H' o = some (.lst (ms.map V.int)) ∧ ms.length ≤ 60 * i)
    ⟨none, none, none, none, [], rfl, s1.trans s2, upd_same, by rw [upd_ne nco.symm, upd_same]; rfl, by simp⟩ (fun i σ H' _ ⟨_, _, _, _, _, _, _, e, _⟩ => SqL.of e) ?_ ?_⟩
  · rintro i x σ H' hx ⟨y2, y3, y4, y5, ms, rfl, sm, ec, eo, hm⟩
    have hi : i < 63 := by
      have := (List.getElem?_eq_some_iff.mp hx).1
      omega
    obtain ⟨z, hz, rfl⟩ := List.mem_map.mp (cut_mem hx)
    have hcy : ∀ (us : List Int), Same H (upd H' o (.lst (us.map V.int))) := fun us b u e => by
      rw [upd_ne (ne_of_none e no)]
      exact sm b u e
    have hcc : ∀ (us : List Int), (upd H' o (.lst (us.map V.int))) c = some (.lst (cutV (ns.map V.int) none (some 63))) := fun us => by
      rw [upd_ne nco]
      exact ec
    -- if cell >= 10 ** 18
    refine ⟨_, rfl, _, _, rfl, rfl, ⟨by decide, by decide, by decide⟩, _, _, rfl, rfl, _, rfl, ite2 (fun _ => ?_) (fun _ => ?_)⟩
    · -- left = cell; the loop
      refine ⟨_, rfl, _, rfl, by decide, by decide, for_range (lo := 0) (n := 60) (fun j σ H'' => ∃ (l : Int) (y4 y5 : Option V) (us : List Int), σ = [some (.ref a), some (.ref o), some (.int z), some (.int l), y4, y5] ∧ Same H H'' ∧ H'' c = some (.lst (cutV (ns.map V.int) none (some 63))) ∧ H'' o = some (.lst (us.map V.int)) ∧ us.length ≤ 60 * i + j)
        ⟨z, y4, y5, ms, rfl, sm, ec, eo, by omega⟩ ?_ ?_⟩
      · rintro j σ H'' hj ⟨l, y4, y5, us, rfl, sm, ec, eo, hu⟩
        -- if left == 0: break
        refine ⟨_, rfl, rfl, _, rfl, ite2 (fun _ => ?_) (fun _ => ?_)⟩
        · exact ⟨_, _, _, _, us, rfl, sm, ec, eo, by omega⟩
        · -- row.append(int(left) % 997); left = left // 997
          refine ⟨_, rfl, .inl ⟨rfl, _, SqL.of eo⟩, _, rfl, .inl ⟨_, rfl, _, _, rfl, rfl, (by show (0 : Int) < _; decide), ?_⟩⟩
          refine ⟨o, _, _, rfl, rfl, eo, by rw [List.length_map]; exact small1000' (by omega), ?_⟩
          refine ⟨_, rfl, _, _, rfl, rfl, ⟨by decide, by decide⟩, ?_⟩
          refine ⟨_, _, _, us ++ [l % 997], rfl, fun b u e => ?_, ?_, ?_, ?_⟩
          · rw [upd_ne (ne_of_none e no)]
            exact sm b u e
          · rw [upd_ne nco]
            exact ec
          · rw [upd_same, List.map_append]
            rfl
          · rw [List.length_append]
            show us.length + 1 ≤ _
            omega
      · rintro σ H'' ⟨l, y4, y5, us, rfl, sm, ec, eo, hu⟩
        exact ⟨_, _, _, _, us, rfl, sm, ec, eo, by omega⟩
    · refine ⟨_, rfl, by decide, by decide, for_range (lo := 0) (n := 4) (fun j σ H'' => ∃ (y3 y4 y5 : Option V) (us : List Int), σ = [some (.ref a), some (.ref o), some (.int z), y3, y4, y5] ∧ Same H H'' ∧ H'' c = some (.lst (cutV (ns.map V.int) none (some 63))) ∧ H'' o = some (.lst (us.map V.int)) ∧ us.length ≤ 60 * i + j)
        ⟨y3, y4, y5, ms, rfl, sm, ec, eo, by omega⟩ ?_ ?_⟩
      · rintro j σ H'' hj ⟨y3, y4, y5, us, rfl, sm, ec, eo, hu⟩
        refine ⟨_, rfl, _, _, rfl, rfl, .inr (by decide), _, rfl, _, _, rfl, rfl, .inr (by decide), _, _, rfl, rfl, _, _, rfl, rfl, .inl ⟨_, rfl, _, _, rfl, rfl, (by show (0 : Int) < _; decide), ?_⟩⟩
        refine ⟨_, rfl, .inl ⟨rfl, _, SqL.of eo⟩, _, rfl, _, _, rfl, rfl, .inr (by decide), _, rfl, _, _, rfl, rfl, .inl ⟨_, rfl, _, _, rfl, rfl, (by show (0 : Int) < _; decide), ?_⟩⟩
        refine ⟨o, _, _, rfl, rfl, eo, by rw [List.length_map]; exact small1000' (by omega), ?_⟩
        refine ⟨_, _, _, us ++ [((z * 48271 + (0 + (j : Int)) * 69621 + 11) % 2147483647 * 16807 + (0 + (j : Int))) % 2147483629], rfl, fun b u e => ?_, ?_, ?_, ?_⟩
        · rw [upd_ne (ne_of_none e no)]
          exact sm b u e
        · rw [upd_ne nco]
          exact ec
        · rw [upd_same, List.map_append]
          rfl
        · rw [List.length_append]
          show us.length + 1 ≤ _
          omega
      · rintro σ H'' ⟨y3, y4, y5, us, rfl, sm, ec, eo, hu⟩
        exact ⟨_, _, _, _, us, rfl, sm, ec, eo, by omega⟩
  · rintro σ H' ⟨y2, y3, y4, y5, ms, rfl, sm, ec, eo, hm⟩
    -- if len(row) == 0
    refine ⟨_, rfl, o, _, rfl, .inl (SqL.of eo), rfl, _, rfl, ite2 (fun e => ?_) (fun e => ?_)⟩
    · refine ⟨_, rfl, .inl ⟨rfl, _, SqL.of eo⟩, o, _, _, rfl, rfl, eo, by rw [List.length_map]; exact small1000' (by omega), ?_⟩
      have e0 : ms.length = 0 := by
        have := V.int.inj (of_decide_eq_true e)
        rw [List.length_map] at this
        omega
      refine ⟨_, rfl, q o _ (fun b u e => ?_) no ⟨ms ++ [0], ?_, ?_, ?_⟩⟩
      · rw [upd_ne (ne_of_none e no)]
        exact sm b u e
      · rw [upd_same, List.map_append]
        rfl
      · rw [List.length_append]
        show 0 < ms.length + 1
        omega
      · rw [List.length_append]
        show ms.length + 1 ≤ _
        omega
    · have e0 : ms.length ≠ 0 := fun z => e (by
        rw [List.length_map, z]
        exact decide_eq_true rfl)
      exact ⟨_, rfl, q o _ sm no ⟨ms, eo, by omega, by omega⟩⟩
end
end Mr
namespace Mr
open PySem PySem.Spec PyProof.Rows L2 Aq
section
variable {P : Program} {w : World} {K : PySem.W.Frag} {mg : Str → Option Value} {base : Heap} {kc : Str → Addr}
theorem CA__law_numbers (T : Tx K mg kc) : CalA P w K mg base kc 1 "_law_numbers" A__law_numbers := by
    exact Df.calA (k := 0) (keep := false) (N := ["script", "row", "cell", "left", "k", "mixed"]) (ps := ["script"]) T.d__law_numbers sc__law_numbers (fun f cdv A outer s H E hr =>
  (s_cons (s_set (i := 1) sc__law_numbers.nd rfl (.inl rfl) (a_ls a_nil))
  (s_cons (s_for (passes_of rfl) rfl (i_seq (a_sl (a_pv (pv 0)) o_no (o_part a_int))) (g_nam (pg_name (i := 2) sc__law_numbers.nd rfl (.inl rfl)))
    (s_one (s_if (t_cmp op_ge (fun _ => ao_ge) (a_pv (pv 2)) (a_op op_pow (fun _ => ao_pow) a_int a_int) (nomark _))
    (s_cons (s_set (i := 3) sc__law_numbers.nd rfl (.inl rfl) (a_pv (pv 2)))
  (s_one (s_for (passes_of rfl) rfl (i_rg1 (es := []) (wi := fun _ _ _ => True) (ta := fun _ _ _ => True) (pi_range1 (by rfl) T.z_range (a_cons a_int a_nil))) (g_nam (pg_name (i := 4) sc__law_numbers.nd rfl (.inl rfl)))
    (s_cons (s_if (t_cmp (op_eqD (hu64 hr)) (fun _ => ao_eq) (a_pv (pv 3)) a_int (nomark _))
    (s_one s_break)
    s_nil)
  (s_cons (s_exp (a_app (a_pv (pv 1)) (a_op op_mod (fun _ => ao_mod) (a_cty call_int1 (fun _ => ab_int) (by rfl) T.z_int (by decide +kernel) (a_cons (a_pv (pv 3)) a_nil)) a_int)))
  (s_one (s_set (i := 3) sc__law_numbers.nd rfl (.inl rfl) (a_op op_fdiv (fun _ => ao_fdv) (a_pv (pv 3)) a_int))))))))
    (s_one (s_for (passes_of rfl) rfl (i_rg1 (es := []) (wi := fun _ _ _ => True) (ta := fun _ _ _ => True) (pi_range1 (by rfl) T.z_range (a_cons a_int a_nil))) (g_nam (pg_name (i := 4) sc__law_numbers.nd rfl (.inl rfl)))
    (s_cons (s_set (i := 5) sc__law_numbers.nd rfl (.inl rfl) (a_op op_mod (fun _ => ao_mod) (a_cty call_int1 (fun _ => ab_int) (by rfl) T.z_int (by decide +kernel) (a_cons (a_op op_addA (fun _ => ao_add) (a_op op_addA (fun _ => ao_add) (a_op op_mulA (fun _ => ao_mul) (a_pv (pv 2)) a_int) (a_op op_mulA (fun _ => ao_mul) (a_pv (pv 4)) a_int)) a_int) a_nil)) a_int))
  (s_one (s_exp (a_app (a_pv (pv 1)) (a_op op_mod (fun _ => ao_mod) (a_cty call_int1 (fun _ => ab_int) (by rfl) T.z_int (by decide +kernel) (a_cons (a_op op_addA (fun _ => ao_add) (a_op op_mulA (fun _ => ao_mul) (a_pv (pv 5)) a_int) (a_pv (pv 4))) a_nil)) a_int))))))))))
  (s_cons (s_if (t_cmp (op_eqD (hu64 hr)) (fun _ => ao_eq) (a_cb call_len_seq (fun _ => ab_len) (by rfl) T.z_len (by decide +kernel) (a_cons (a_pv (pv 1)) a_nil)) a_int (nomark _))
    (s_one (s_exp (a_app (a_pv (pv 1)) a_int)))
    s_nil)
  (s_one (s_ret (a_pv (pv 1))))))))
theorem CA__law_draw (T : Tx K mg kc) : CalA P w K mg base kc 1 "_law_draw" A__law_draw := by
    exact Df.calA (k := 0) (keep := false) (N := ["row", "at", "limit", "mixed"]) (ps := ["row", "at", "limit"]) T.d__law_draw sc__law_draw (fun f cdv A outer s H E hr =>
  (s_cons (s_if (t_cmp op_lt (fun _ => ao_lt) (a_pv (pv 1)) (a_cb call_len_seq (fun _ => ab_len) (by rfl) T.z_len (by decide +kernel) (a_cons (a_pv (pv 0)) a_nil)) (nomark _))
    (s_one (s_ret (a_op op_mod (fun _ => ao_mod) (a_cty call_int1 (fun _ => ab_int) (by rfl) T.z_int (by decide +kernel) (a_cons (a_ix (a_pv (pv 0)) (a_pv (pv 1)) (fun _ _ => rfl)) a_nil)) (a_pv (pv 2)))))
    s_nil)
  (s_cons (s_set (i := 3) sc__law_draw.nd rfl (.inl rfl) (a_op op_mod (fun _ => ao_mod) (a_cty call_int1 (fun _ => ab_int) (by rfl) T.z_int (by decide +kernel) (a_cons (a_op op_addA (fun _ => ao_add) (a_op op_addA (fun _ => ao_add) (a_op op_mulA (fun _ => ao_mul) (a_ix (a_pv (pv 0)) (a_op op_mod (fun _ => ao_mod) (a_cty call_int1 (fun _ => ab_int) (by rfl) T.z_int (by decide +kernel) (a_cons (a_pv (pv 1)) a_nil)) (a_cb call_len_seq (fun _ => ab_len) (by rfl) T.z_len (by decide +kernel) (a_cons (a_pv (pv 0)) a_nil))) (fun _ _ => rfl)) a_int) (a_op op_mulA (fun _ => ao_mul) (a_pv (pv 1)) a_int)) a_int) a_nil)) a_int))
  (s_one (s_ret (a_op op_mod (fun _ => ao_mod) (a_cty call_int1 (fun _ => ab_int) (by rfl) T.z_int (by decide +kernel) (a_cons (a_op op_mod (fun _ => ao_mod) (a_cty call_int1 (fun _ => ab_int) (by rfl) T.z_int (by decide +kernel) (a_cons (a_op op_addA (fun _ => ao_add) (a_op op_mulA (fun _ => ao_mul) (a_pv (pv 3)) a_int) (a_pv (pv 1))) a_nil)) a_int) a_nil)) (a_pv (pv 2))))))))
theorem CA__law_take (T : Tx K mg kc) : CalA P w K mg base kc 2 "_law_take" A__law_take := by
    have CA__law_draw := CA__law_draw (P := P) (w := w) (base := base) T
    exact Df.calA (k := 1) (keep := false) (N := ["row", "spot", "limit"]) (ps := ["row", "spot", "limit"]) T.d__law_take sc__law_take (fun f cdv A outer s H E hr =>
  (s_cons (s_asg (a_op op_addA (fun _ => ao_add) (a_ix (a_pv (pv 1)) a_int (fun _ _ => rfl)) a_int) (g_sub (W := W0) (a_pv (pv 1)) a_int))
  (s_one (s_ret (a_call CA__law_draw hr (by decide) (by rfl) (takes_of rfl rfl rfl rfl) (a_cons (a_pv (pv 0)) (a_cons (a_op op_sub (fun _ => ao_sub) (a_ix (a_pv (pv 1)) a_int (fun _ _ => rfl)) a_int) (a_cons (a_pv (pv 2)) a_nil))))))))
theorem CA__law_wide (T : Tx K mg kc) : CalA P w K mg base kc 3 "_law_wide" A__law_wide := by
    have CA__law_take := CA__law_take (P := P) (w := w) (base := base) T
    exact Df.calA (k := 2) (keep := false) (N := ["row", "spot", "limit", "first", "second", "third"]) (ps := ["row", "spot", "limit"]) T.d__law_wide sc__law_wide (fun f cdv A outer s H E hr =>
  (s_cons (s_set (i := 3) sc__law_wide.nd rfl (.inl rfl) (a_call CA__law_take hr (by decide) (by rfl) (takes_of rfl rfl rfl rfl) (a_cons (a_pv (pv 0)) (a_cons (a_pv (pv 1)) (a_cons a_int a_nil)))))
  (s_cons (s_set (i := 4) sc__law_wide.nd rfl (.inl rfl) (a_call CA__law_take hr (by decide) (by rfl) (takes_of rfl rfl rfl rfl) (a_cons (a_pv (pv 0)) (a_cons (a_pv (pv 1)) (a_cons a_int a_nil)))))
  (s_cons (s_set (i := 5) sc__law_wide.nd rfl (.inl rfl) (a_call CA__law_take hr (by decide) (by rfl) (takes_of rfl rfl rfl rfl) (a_cons (a_pv (pv 0)) (a_cons (a_pv (pv 1)) (a_cons a_int a_nil)))))
  (s_one (s_ret (a_op op_mod (fun _ => ao_mod) (a_cty call_int1 (fun _ => ab_int) (by rfl) T.z_int (by decide +kernel) (a_cons (a_op op_addA (fun _ => ao_add) (a_op op_addA (fun _ => ao_add) (a_op op_mulA (fun _ => ao_mul) (a_pv (pv 3)) a_int) (a_op op_mulA (fun _ => ao_mul) (a_pv (pv 4)) a_int)) (a_pv (pv 5))) a_nil)) (a_pv (pv 2)))))))))
theorem CA__law_time (T : Tx K mg kc) : CalA P w K mg base kc 4 "_law_time" A__law_time := by
    have CA__law_take := CA__law_take (P := P) (w := w) (base := base) T
    have CA__law_wide := CA__law_wide (P := P) (w := w) (base := base) T
    exact Df.calA (k := 3) (keep := false) (N := ["row", "spot", "style"]) (ps := ["row", "spot", "style"]) T.d__law_time sc__law_time (fun f cdv A outer s H E hr =>
  (s_cons (s_if (t_cmp (op_eqD (hu64 hr)) (fun _ => ao_eq) (a_pv (pv 2)) a_int (nomark _))
    (s_one (s_ret (a_call CA__law_take hr (by decide) (by rfl) (takes_of rfl rfl rfl rfl) (a_cons (a_pv (pv 0)) (a_cons (a_pv (pv 1)) (a_cons a_int a_nil))))))
    s_nil)
  (s_cons (s_if (t_cmp (op_eqD (hu64 hr)) (fun _ => ao_eq) (a_pv (pv 2)) a_int (nomark _))
    (s_one (s_ret (a_call CA__law_take hr (by decide) (by rfl) (takes_of rfl rfl rfl rfl) (a_cons (a_pv (pv 0)) (a_cons (a_pv (pv 1)) (a_cons a_int a_nil))))))
    s_nil)
  (s_one (s_ret (a_ix (a_vl (a_cons a_int (a_cons a_int (a_cons a_int (a_cons (a_call CA__law_wide hr (by decide) (by rfl) (takes_of rfl rfl rfl rfl) (a_cons (a_pv (pv 0)) (a_cons (a_pv (pv 1)) (a_cons a_int a_nil)))) a_nil))))) (a_call CA__law_take hr (by decide) (by rfl) (takes_of rfl rfl rfl rfl) (a_cons (a_pv (pv 0)) (a_cons (a_pv (pv 1)) (a_cons a_int a_nil)))) (fun _ _ => rfl)))))))
theorem CA__law_task (T : Tx K mg kc) : CalA P w K mg base kc 5 "_law_task" A__law_task := by
    have CA__law_time := CA__law_time (P := P) (w := w) (base := base) T
    have CA__law_take := CA__law_take (P := P) (w := w) (base := base) T
    exact Df.calA (k := 4) (keep := false) (N := ["row", "spot", "style", "usual"]) (ps := ["row", "spot", "style"]) T.d__law_task sc__law_task (fun f cdv A outer s H E hr =>
  (s_cons (s_set (i := 3) sc__law_task.nd rfl (.inl rfl) (a_call CA__law_time hr (by decide) (by rfl) (takes_of rfl rfl rfl rfl) (a_cons (a_pv (pv 0)) (a_cons (a_pv (pv 1)) (a_cons (a_pv (pv 2)) a_nil)))))
  (s_cons (s_if (t_cmp (op_eqD (hu64 hr)) (fun _ => ao_eq) (a_call CA__law_take hr (by decide) (by rfl) (takes_of rfl rfl rfl rfl) (a_cons (a_pv (pv 0)) (a_cons (a_pv (pv 1)) (a_cons a_int a_nil)))) a_int (nomark _))
    (s_one (s_ret (a_tup (a_cons (a_pv (pv 3)) (a_cons (a_pv (pv 3)) a_nil)))))
    s_nil)
  (s_one (s_ret (a_tup (a_cons (a_pv (pv 3)) (a_cons (a_cb (call_min2 rfl) (fun _ => ab_min2) (by rfl) T.z_min (by decide +kernel) (a_cons a_int (a_cons (a_op op_addA (fun _ => ao_add) (a_pv (pv 3)) (a_call CA__law_time hr (by decide) (by rfl) (takes_of rfl rfl rfl rfl) (a_cons (a_pv (pv 0)) (a_cons (a_pv (pv 1)) (a_cons (a_pv (pv 2)) a_nil))))) a_nil))) a_nil))))))))
theorem CA__law_mixed (T : Tx K mg kc) : CalA P w K mg base kc 3 "_law_mixed" A__law_mixed := by
    have CA__law_take := CA__law_take (P := P) (w := w) (base := base) T
    exact Df.calA (k := 2) (keep := false) (N := ["row", "spot", "things", "left", "made", "k", "at"]) (ps := ["row", "spot", "things"]) T.d__law_mixed sc__law_mixed (fun f cdv A outer s H E hr =>
  (s_cons (s_set (i := 3) sc__law_mixed.nd rfl (.inl rfl) (a_cty call_list_of (fun _ => ab_list) (by rfl) T.z_list (by decide +kernel) (a_cons (a_pv (pv 2)) a_nil)))
  (s_cons (s_set (i := 4) sc__law_mixed.nd rfl (.inl rfl) (a_ls a_nil))
  (s_cons (s_for (passes_of rfl) rfl (i_rg1 (es := []) (wi := fun _ _ _ => True) (ta := fun _ _ _ => True) (pi_range1 (by rfl) T.z_range (a_cons (a_cb call_len_seq (fun _ => ab_len) (by rfl) T.z_len (by decide +kernel) (a_cons (a_pv (pv 2)) a_nil)) a_nil))) (g_nam (pg_name (i := 5) sc__law_mixed.nd rfl (.inl rfl)))
    (s_cons (s_set (i := 6) sc__law_mixed.nd rfl (.inl rfl) (a_call CA__law_take hr (by decide) (by rfl) (takes_of rfl rfl rfl rfl) (a_cons (a_pv (pv 0)) (a_cons (a_pv (pv 1)) (a_cons (a_cb call_len_seq (fun _ => ab_len) (by rfl) T.z_len (by decide +kernel) (a_cons (a_pv (pv 3)) a_nil)) a_nil)))))
  (s_cons (s_exp (a_app (a_pv (pv 4)) (a_ix (a_pv (pv 3)) (a_pv (pv 6)) (fun _ _ => rfl))))
  (s_one (s_set (i := 3) sc__law_mixed.nd rfl (.inl rfl) (a_op op_addA (fun _ => ao_add) (a_sl (a_pv (pv 3)) o_no (o_part (a_pv (pv 6)))) (a_sl (a_pv (pv 3)) (o_part (a_op op_addA (fun _ => ao_add) (a_pv (pv 6)) a_int)) o_no)))))))
  (s_one (s_ret (a_pv (pv 4))))))))
theorem CA__law_pairs_of (T : Tx K mg kc) : CalA P w K mg base kc 4 "_law_pairs_of" A__law_pairs_of := by
    have CA__law_mixed := CA__law_mixed (P := P) (w := w) (base := base) T
    have CA__law_take := CA__law_take (P := P) (w := w) (base := base) T
    exact Df.calA (k := 3) (keep := false) (N := ["row", "spot", "count", "many", "spots", "made", "k", "one", "other", "pair"]) (ps := ["row", "spot", "count", "many"]) T.d__law_pairs_of sc__law_pairs_of (fun f cdv A outer s H E hr =>
  (s_cons (s_set (i := 4) sc__law_pairs_of.nd rfl (.inl rfl) (a_call CA__law_mixed hr (by decide) (by rfl) (takes_of rfl rfl rfl rfl) (a_cons (a_pv (pv 0)) (a_cons (a_pv (pv 1)) (a_cons (a_lrg (by rfl) (by rfl) T.z_list (by rfl) T.z_range (a_pv (pv 2))) a_nil)))))
  (s_cons (s_set (i := 5) sc__law_pairs_of.nd rfl (.inl rfl) (a_ls a_nil))
  (s_cons (s_for (passes_of rfl) rfl (i_rg1 (es := []) (wi := fun _ _ _ => True) (ta := fun _ _ _ => True) (pi_range1 (by rfl) T.z_range (a_cons (a_pv (pv 3)) a_nil))) (g_nam (pg_name (i := 6) sc__law_pairs_of.nd rfl (.inl rfl)))
    (s_cons (s_set (i := 7) sc__law_pairs_of.nd rfl (.inl rfl) (a_call CA__law_take hr (by decide) (by rfl) (takes_of rfl rfl rfl rfl) (a_cons (a_pv (pv 0)) (a_cons (a_pv (pv 1)) (a_cons (a_pv (pv 2)) a_nil)))))
  (s_cons (s_set (i := 8) sc__law_pairs_of.nd rfl (.inl rfl) (a_call CA__law_take hr (by decide) (by rfl) (takes_of rfl rfl rfl rfl) (a_cons (a_pv (pv 0)) (a_cons (a_pv (pv 1)) (a_cons (a_pv (pv 2)) a_nil)))))
  (s_one (s_if (t_cmp (op_neD (hu64 hr)) (fun _ => ao_ne) (a_pv (pv 7)) (a_pv (pv 8)) (nomark _))
    (s_cons (s_set (i := 9) sc__law_pairs_of.nd rfl (.inl rfl) (a_tup (a_cons (a_ix (a_pv (pv 4)) (a_cb (call_min2 rfl) (fun _ => ab_min2) (by rfl) T.z_min (by decide +kernel) (a_cons (a_pv (pv 7)) (a_cons (a_pv (pv 8)) a_nil))) (fun _ _ => rfl)) (a_cons (a_ix (a_pv (pv 4)) (a_cb (call_max2 rfl) (fun _ => ab_max2) (by rfl) T.z_max (by decide +kernel) (a_cons (a_pv (pv 7)) (a_cons (a_pv (pv 8)) a_nil))) (fun _ _ => rfl)) a_nil))))
  (s_one (s_if (t_cmp (op_notInA (hu65 hr)) (fun _ => ao_notIn) (a_pv (pv 9)) (a_pv (pv 5)) (by rfl))
    (s_one (s_exp (a_app (a_pv (pv 5)) (a_pv (pv 9)))))
    s_nil)))
    s_nil)))))
  (s_one (s_ret (a_cty call_tuple_of (fun _ => ab_tuple) (by rfl) T.z_tuple (by decide +kernel) (a_cons (a_pv (pv 5)) a_nil))))))))
theorem CA__law_model (T : Tx K mg kc) : CalA P w K mg base kc 3 "_law_model" A__law_model := by
    have CA__law_take := CA__law_take (P := P) (w := w) (base := base) T
    exact Df.calA (k := 2) (keep := false) (N := ["row", "spot", "count", "style", "k"]) (ps := ["row", "spot", "count"]) T.d__law_model sc__law_model (fun f cdv A outer s H E hr =>
  (s_cons (s_set (i := 3) sc__law_model.nd rfl (.inl rfl) (a_call CA__law_take hr (by decide) (by rfl) (takes_of rfl rfl rfl rfl) (a_cons (a_pv (pv 0)) (a_cons (a_pv (pv 1)) (a_cons a_int a_nil)))))
  (s_cons (s_if (t_cmp (op_eqD (hu64 hr)) (fun _ => ao_eq) (a_pv (pv 3)) a_int (nomark _))
    (s_one (s_ret (a_trg (by rfl) (by rfl) T.z_tuple (by rfl) T.z_range (a_pv (pv 2)))))
    s_nil)
  (s_one (s_ret (a_cty call_tuple_of (fun _ => ab_tuple) (by rfl) T.z_tuple (by decide +kernel) (a_cons (a_lc (own := [("k", 4)]) (by rfl) sc__law_model.nd (i_rg1 (es := []) (wi := fun _ _ _ => True) (ta := fun _ _ _ => True) (pi_range1 (by rfl) T.z_range (a_cons (a_pv (pv 2)) a_nil))) (blkOk_by (own := [("k", 4)]) (N := ["row", "spot", "count", "style", "k"]) (sc := defScope s__law_model) (by decide +kernel)) (fun _ _ _ _ _ => (gc_nam (pg_name (i := 4) sc__law_model.nd rfl (Or.inl rfl)) (by decide))) (fun _ _ _ _ _ => (if_one (t_cmp op_gt (fun _ => ao_gt) (a_call CA__law_take hr (by decide) (by rfl) takes0 (a_cons (a_pv (pv 0)) (a_cons (a_pv (pv 1)) (a_cons a_int a_nil)))) a_int (nomark _)))) (fun _ _ _ _ _ => (a_pv (pv 4)))) a_nil)))))))
theorem CA__law_states (T : Tx K mg kc) : CalA P w K mg base kc 3 "_law_states" A__law_states := by
    have CA__law_take := CA__law_take (P := P) (w := w) (base := base) T
    exact Df.calA (k := 2) (keep := false) (N := ["row", "spot", "models", "wide", "many", "count", "made", "k", "arcs", "j", "arc"]) (ps := ["row", "spot", "models", "wide", "many"]) T.d__law_states sc__law_states (fun f cdv A outer s H E hr =>
  (s_cons (s_set (i := 5) sc__law_states.nd rfl (.inl rfl) (a_op op_addA (fun _ => ao_add) a_int (a_call CA__law_take hr (by decide) (by rfl) (takes_of rfl rfl rfl rfl) (a_cons (a_pv (pv 0)) (a_cons (a_pv (pv 1)) (a_cons (a_pv (pv 3)) a_nil))))))
  (s_cons (s_set (i := 6) sc__law_states.nd rfl (.inl rfl) (a_ls a_nil))
  (s_cons (s_for (passes_of rfl) rfl (i_rg1 (es := []) (wi := fun _ _ _ => True) (ta := fun _ _ _ => True) (pi_range1 (by rfl) T.z_range (a_cons (a_pv (pv 5)) a_nil))) (g_nam (pg_name (i := 7) sc__law_states.nd rfl (.inl rfl)))
    (s_cons (s_set (i := 8) sc__law_states.nd rfl (.inl rfl) (a_ls a_nil))
  (s_cons (s_for (passes_of rfl) rfl (i_rg1 (es := []) (wi := fun _ _ _ => True) (ta := fun _ _ _ => True) (pi_range1 (by rfl) T.z_range (a_cons (a_op op_addA (fun _ => ao_add) a_int (a_call CA__law_take hr (by decide) (by rfl) (takes_of rfl rfl rfl rfl) (a_cons (a_pv (pv 0)) (a_cons (a_pv (pv 1)) (a_cons (a_pv (pv 4)) a_nil))))) a_nil))) (g_nam (pg_name (i := 9) sc__law_states.nd rfl (.inl rfl)))
    (s_cons (s_set (i := 10) sc__law_states.nd rfl (.inl rfl) (a_tup (a_cons (a_call CA__law_take hr (by decide) (by rfl) (takes_of rfl rfl rfl rfl) (a_cons (a_pv (pv 0)) (a_cons (a_pv (pv 1)) (a_cons (a_pv (pv 2)) a_nil)))) (a_cons (a_call CA__law_take hr (by decide) (by rfl) (takes_of rfl rfl rfl rfl) (a_cons (a_pv (pv 0)) (a_cons (a_pv (pv 1)) (a_cons (a_pv (pv 5)) a_nil)))) a_nil))))
  (s_one (s_if (t_cmp (op_notInA (hu65 hr)) (fun _ => ao_notIn) (a_pv (pv 10)) (a_pv (pv 8)) (by rfl))
    (s_one (s_exp (a_app (a_pv (pv 8)) (a_pv (pv 10)))))
    s_nil))))
  (s_one (s_exp (a_app (a_pv (pv 6)) (a_cty call_tuple_of (fun _ => ab_tuple) (by rfl) T.z_tuple (by decide +kernel) (a_cons (a_pv (pv 8)) a_nil))))))))
  (s_one (s_ret (a_cty call_tuple_of (fun _ => ab_tuple) (by rfl) T.z_tuple (by decide +kernel) (a_cons (a_pv (pv 6)) a_nil))))))))
theorem CA__law_line (T : Tx K mg kc) : CalA P w K mg base kc 6 "_law_line" A__law_line := by
    have CA__law_take := CA__law_take (P := P) (w := w) (base := base) T
    have CA__law_task := CA__law_task (P := P) (w := w) (base := base) T
    have CA__law_pairs_of := CA__law_pairs_of (P := P) (w := w) (base := base) T
    have CA__law_model := CA__law_model (P := P) (w := w) (base := base) T
    have CA__law_states := CA__law_states (P := P) (w := w) (base := base) T
    exact Df.calA (k := 5) (keep := false) (N := ["row", "spot", "tasks", "wide", "many", "slips", "style", "count", "jobs", "pairs", "kinds", "states", "start", "left", "k"]) (ps := ["row", "spot", "tasks", "wide", "many", "slips"]) T.d__law_line sc__law_line (fun f cdv A outer s H E hr =>
  (s_cons (s_set (i := 6) sc__law_line.nd rfl (.inr rfl) (a_ix (a_vl (a_cons a_int (a_cons a_int (a_cons a_int (a_cons a_int a_nil))))) (a_call CA__law_take hr (by decide) (by rfl) (takes_of rfl rfl rfl rfl) (a_cons (a_pv (pv 0)) (a_cons (a_pv (pv 1)) (a_cons a_int a_nil)))) (fun _ _ => rfl)))
  (s_cons (s_set (i := 7) sc__law_line.nd rfl (.inr rfl) (a_op op_addA (fun _ => ao_add) a_int (a_call CA__law_take hr (by decide) (by rfl) (takes_of rfl rfl rfl rfl) (a_cons (a_pv (pv 0)) (a_cons (a_pv (pv 1)) (a_cons (a_pv (pv 2)) a_nil))))))
  (s_cons (s_set (i := 8) sc__law_line.nd rfl (.inl rfl) (a_cty call_tuple_of (fun _ => ab_tuple) (by rfl) T.z_tuple (by decide +kernel) (a_cons (a_lc (own := [("k", 14)]) (by rfl) sc__law_line.nd (i_rg1 (es := []) (wi := fun _ _ _ => True) (ta := fun _ _ _ => True) (pi_range1 (by rfl) T.z_range (a_cons (a_pv (pv 7)) a_nil))) (blkOk_by (own := [("k", 14)]) (N := ["row", "spot", "tasks", "wide", "many", "slips", "style", "count", "jobs", "pairs", "kinds", "states", "start", "left", "k"]) (sc := defScope s__law_line) (by decide +kernel)) (fun _ _ _ _ _ => (gc_nam (pg_name (i := 14) sc__law_line.nd rfl (Or.inl rfl)) (by decide))) (fun _ _ _ _ _ => if_nil) (fun _ _ _ _ _ => (a_call CA__law_task hr (by decide) (by rfl) takes0 (a_cons (a_pv (pv 0)) (a_cons (a_pv (pv 1)) (a_cons (a_pv (pv 6)) a_nil)))))) a_nil)))
  (s_cons (s_set (i := 9) sc__law_line.nd rfl (.inl rfl) (a_call CA__law_pairs_of hr (by decide) (by rfl) (takes_of rfl rfl rfl rfl) (a_cons (a_pv (pv 0)) (a_cons (a_pv (pv 1)) (a_cons (a_pv (pv 7)) (a_cons (a_call CA__law_take hr (by decide) (by rfl) (takes_of rfl rfl rfl rfl) (a_cons (a_pv (pv 0)) (a_cons (a_pv (pv 1)) (a_cons (a_op op_addA (fun _ => ao_add) (a_pv (pv 7)) a_int) a_nil)))) a_nil))))))
  (s_cons (s_set (i := 10) sc__law_line.nd rfl (.inl rfl) (a_cty call_tuple_of (fun _ => ab_tuple) (by rfl) T.z_tuple (by decide +kernel) (a_cons (a_lc (own := [("k", 14)]) (by rfl) sc__law_line.nd (i_rg1 (es := []) (wi := fun _ _ _ => True) (ta := fun _ _ _ => True) (pi_range1 (by rfl) T.z_range (a_cons (a_op op_addA (fun _ => ao_add) a_int (a_call CA__law_take hr (by decide) (by rfl) (takes_of rfl rfl rfl rfl) (a_cons (a_pv (pv 0)) (a_cons (a_pv (pv 1)) (a_cons a_int a_nil))))) a_nil))) (blkOk_by (own := [("k", 14)]) (N := ["row", "spot", "tasks", "wide", "many", "slips", "style", "count", "jobs", "pairs", "kinds", "states", "start", "left", "k"]) (sc := defScope s__law_line) (by decide +kernel)) (fun _ _ _ _ _ => (gc_nam (pg_name (i := 14) sc__law_line.nd rfl (Or.inl rfl)) (by decide))) (fun _ _ _ _ _ => if_nil) (fun _ _ _ _ _ => (a_call CA__law_model hr (by decide) (by rfl) takes0 (a_cons (a_pv (pv 0)) (a_cons (a_pv (pv 1)) (a_cons (a_pv (pv 7)) a_nil)))))) a_nil)))
  (s_cons (s_set (i := 11) sc__law_line.nd rfl (.inl rfl) (a_call CA__law_states hr (by decide) (by rfl) (takes_of rfl rfl rfl rfl) (a_cons (a_pv (pv 0)) (a_cons (a_pv (pv 1)) (a_cons (a_cb call_len_seq (fun _ => ab_len) (by rfl) T.z_len (by decide +kernel) (a_cons (a_pv (pv 10)) a_nil)) (a_cons (a_pv (pv 3)) (a_cons (a_pv (pv 4)) a_nil)))))))
  (s_cons (s_set (i := 12) sc__law_line.nd rfl (.inl rfl) (a_call CA__law_take hr (by decide) (by rfl) (takes_of rfl rfl rfl rfl) (a_cons (a_pv (pv 0)) (a_cons (a_pv (pv 1)) (a_cons (a_cb call_len_seq (fun _ => ab_len) (by rfl) T.z_len (by decide +kernel) (a_cons (a_pv (pv 11)) a_nil)) a_nil)))))
  (s_cons (s_set (i := 13) sc__law_line.nd rfl (.inl rfl) (a_if (t_cmp (op_eqD (hu64 hr)) (fun _ => ao_eq) (a_call CA__law_take hr (by decide) (by rfl) (takes_of rfl rfl rfl rfl) (a_cons (a_pv (pv 0)) (a_cons (a_pv (pv 1)) (a_cons a_int a_nil)))) a_int (nomark _)) a_non (a_call CA__law_take hr (by decide) (by rfl) (takes_of rfl rfl rfl rfl) (a_cons (a_pv (pv 0)) (a_cons (a_pv (pv 1)) (a_cons (a_op op_addA (fun _ => ao_add) (a_pv (pv 5)) a_int) a_nil))))))
  (s_one (s_ret (a_tup (a_cons (a_pv (pv 8)) (a_cons (a_pv (pv 9)) (a_cons (a_pv (pv 10)) (a_cons (a_pv (pv 11)) (a_cons (a_pv (pv 12)) (a_cons (a_pv (pv 13)) a_nil))))))))))))))))))
theorem CA__law_case (T : Tx K mg kc) : CalA P w K mg base kc 7 "_law_case" A__law_case := by
    have CA__law_take := CA__law_take (P := P) (w := w) (base := base) T
    have CA__law_line := CA__law_line (P := P) (w := w) (base := base) T
    exact Df.calA (k := 6) (keep := false) (N := ["row", "spot", "style"]) (ps := ["row", "spot"]) T.d__law_case sc__law_case (fun f cdv A outer s H E hr =>
  (s_cons (s_set (i := 2) sc__law_case.nd rfl (.inl rfl) (a_call CA__law_take hr (by decide) (by rfl) (takes_of rfl rfl rfl rfl) (a_cons (a_pv (pv 0)) (a_cons (a_pv (pv 1)) (a_cons a_int a_nil)))))
  (s_cons (s_if (t_cmp (op_eqD (hu64 hr)) (fun _ => ao_eq) (a_pv (pv 2)) a_int (nomark _))
    (s_one (s_ret (a_call CA__law_line hr (by decide) (by rfl) (takes_of rfl rfl rfl rfl) (a_cons (a_pv (pv 0)) (a_cons (a_pv (pv 1)) (a_cons a_int (a_cons a_int (a_cons a_int (a_cons a_int a_nil)))))))))
    s_nil)
  (s_cons (s_if (t_cmp (op_eqD (hu64 hr)) (fun _ => ao_eq) (a_pv (pv 2)) a_int (nomark _))
    (s_one (s_ret (a_call CA__law_line hr (by decide) (by rfl) (takes_of rfl rfl rfl rfl) (a_cons (a_pv (pv 0)) (a_cons (a_pv (pv 1)) (a_cons a_int (a_cons a_int (a_cons a_int (a_cons a_int a_nil)))))))))
    s_nil)
  (s_cons (s_if (t_cmp (op_eqD (hu64 hr)) (fun _ => ao_eq) (a_pv (pv 2)) a_int (nomark _))
    (s_one (s_ret (a_call CA__law_line hr (by decide) (by rfl) (takes_of rfl rfl rfl rfl) (a_cons (a_pv (pv 0)) (a_cons (a_pv (pv 1)) (a_cons a_int (a_cons a_int (a_cons a_int (a_cons a_int a_nil)))))))))
    s_nil)
  (s_one (s_ret (a_call CA__law_line hr (by decide) (by rfl) (takes_of rfl rfl rfl rfl) (a_cons (a_pv (pv 0)) (a_cons (a_pv (pv 1)) (a_cons a_int (a_cons a_int (a_cons a_int (a_cons a_int a_nil))))))))))))))
theorem CA__law_loose (T : Tx K mg kc) : ∀ n, CalA P w K mg base kc (1 + n) "_law_loose" (A__law_loose n)
  | 0 => calA_bad T.d__law_loose sc__law_loose
  | n + 1 => by
    have IH := CA__law_loose T n
    exact Df.calA (k := 1 + n) (keep := false) (N := ["value", "turn", "made", "one"]) (ps := ["value", "turn"]) T.d__law_loose sc__law_loose (fun f cdv A outer s H E hr =>
  (s_cons (s_if (t_val (a_isi (by rfl) T.z_isinstance (a_pv (pv 0)) (pe_bltn (v := .ty "tuple") (by rfl) T.z_tuple (by decide +kernel) rfl)))
    (s_cons (s_setLc (own := [("one", 3)]) (i := 2) rfl sc__law_loose.nd rfl rfl (sw_true rfl rfl rfl (by decide +kernel)) (i_seq (a_pv (pv 0))) (blkOk_by (own := [("one", 3)]) (N := ["value", "turn", "made", "one"]) (sc := defScope s__law_loose) (by decide +kernel)) (fun _ _ _ _ _ => (gc_nam (pg_name (i := 3) sc__law_loose.nd rfl (Or.inl rfl)) (by decide))) (fun _ _ _ _ _ => if_nil) (fun _ _ _ _ _ => (a_call IH hr (Nat.le_refl _) (by rfl) takes0 (a_cons (a_pv (pv 3)) (a_cons (a_op op_addA (fun _ => ao_add) (a_pv (pv 1)) a_int) a_nil)))))
  (s_one (s_ret (a_if (t_cmp (op_eqD (hu64 hr)) (fun _ => ao_eq) (a_op op_mod (fun _ => ao_mod) (a_cty call_int1 (fun _ => ab_int) (by rfl) T.z_int (by decide +kernel) (a_cons (a_pv (pv 1)) a_nil)) a_int) a_int (nomark _)) (a_pv (pv 2)) (a_cty call_tuple_of (fun _ => ab_tuple) (by rfl) T.z_tuple (by decide +kernel) (a_cons (a_pv (pv 2)) a_nil))))))
    s_nil)
  (s_one (s_ret (a_pv (pv 0))))))
theorem CA_is_sequence (T : Tx K mg kc) : CalA P w K mg base kc 1 "is_sequence" A_is_sequence := by
    exact Df.calA (k := 0) (keep := false) (N := ["value"]) (ps := ["value"]) T.d_is_sequence sc_is_sequence (fun f cdv A outer s H E hr =>
  (s_one (s_ret (a_isi2 (by rfl) T.z_isinstance (a_pv (pv 0)) (pe_bltn (v := .ty "list") (by rfl) T.z_list (by decide +kernel) rfl) (pe_bltn (v := .ty "tuple") (by rfl) T.z_tuple (by decide +kernel) rfl)))))
theorem CA_has_length (T : Tx K mg kc) : CalA P w K mg base kc 2 "has_length" A_has_length := by
    have CA_is_sequence := CA_is_sequence (P := P) (w := w) (base := base) T
    exact Df.calA (k := 1) (keep := false) (N := ["value", "low", "high"]) (ps := ["value", "low", "high"]) T.d_has_length sc_has_length (fun f cdv A outer s H E hr =>
  (s_one (s_ret (a_and (a_call CA_is_sequence hr (by decide) (by rfl) (takes_of rfl rfl rfl rfl) (a_cons (a_pv (pv 0)) a_nil)) (a_one (a_chain op_le (fun _ => ao_le) op_le (fun _ => ao_le) (a_pv (pv 1)) (a_cb call_len_seq (fun _ => ab_len) (by rfl) T.z_len (by decide +kernel) (a_cons (a_pv (pv 0)) a_nil)) (a_pv (pv 2))))))))
theorem CA_is_integer (T : Tx K mg kc) : CalA P w K mg base kc 1 "is_integer" A_is_integer := by
    exact Df.calA (k := 0) (keep := false) (N := ["value"]) (ps := ["value"]) T.d_is_integer sc_is_integer (fun f cdv A outer s H E hr =>
  (s_one (s_ret (a_and (a_isi (by rfl) T.z_isinstance (a_pv (pv 0)) (pe_bltn (v := .ty "int") (by rfl) T.z_int (by decide +kernel) rfl)) (a_one (a_not (a_isi (by rfl) T.z_isinstance (a_pv (pv 0)) (pe_bltn (v := .ty "bool") (by rfl) T.z_bool (by decide +kernel) rfl))))))))
theorem CA_is_within (T : Tx K mg kc) : CalA P w K mg base kc 2 "is_within" A_is_within := by
    have CA_is_integer := CA_is_integer (P := P) (w := w) (base := base) T
    exact Df.calA (k := 1) (keep := false) (N := ["value", "low", "high"]) (ps := ["value", "low", "high"]) T.d_is_within sc_is_within (fun f cdv A outer s H E hr =>
  (s_one (s_ret (a_and (a_call CA_is_integer hr (by decide) (by rfl) (takes_of rfl rfl rfl rfl) (a_cons (a_pv (pv 0)) a_nil)) (a_one (a_chain op_le (fun _ => ao_le) op_le (fun _ => ao_le) (a_pv (pv 1)) (a_pv (pv 0)) (a_pv (pv 2))))))))
theorem CA_is_task (T : Tx K mg kc) : CalA P w K mg base kc 3 "is_task" A_is_task := by
    have CA_has_length := CA_has_length (P := P) (w := w) (base := base) T
    have CA_is_within := CA_is_within (P := P) (w := w) (base := base) T
    exact Df.calA (k := 2) (keep := false) (N := ["value", "usual", "upper"]) (ps := ["value"]) T.d_is_task sc_is_task (fun f cdv A outer s H E hr =>
  (s_cons (s_if (t_not (t_val (a_call CA_has_length hr (by decide) (by rfl) (takes_of rfl rfl rfl rfl) (a_cons (a_pv (pv 0)) (a_cons a_int (a_cons a_int a_nil))))))
    (s_one (s_ret a_bl))
    s_nil)
  (s_cons (s_asg (a_pv (pv 0)) (g_un rfl (gs_cons (g_nam (pg_name (i := 1) sc_is_task.nd rfl (.inl rfl))) (gs_cons (g_nam (pg_name (i := 2) sc_is_task.nd rfl (.inl rfl))) gs_nil))))
  (s_one (s_ret (a_and (a_call CA_is_within hr (by decide) (by rfl) (takes_of rfl rfl rfl rfl) (a_cons (a_pv (pv 2)) (a_cons a_int (a_cons (a_gc (C8.pe_gc (by rfl) T.m_MOST_TIME)) a_nil)))) (a_one (a_call CA_is_within hr (by decide) (by rfl) (takes_of rfl rfl rfl rfl) (a_cons (a_pv (pv 1)) (a_cons a_int (a_cons (a_pv (pv 2)) a_nil)))))))))))
theorem CA_checked_tasks (T : Tx K mg kc) : CalA P w K mg base kc 4 "checked_tasks" A_checked_tasks := by
    have CA_is_sequence := CA_is_sequence (P := P) (w := w) (base := base) T
    have CA_is_task := CA_is_task (P := P) (w := w) (base := base) T
    exact Df.calA (k := 3) (keep := false) (N := ["tasks", "at", "task"]) (ps := ["tasks"]) T.d_checked_tasks sc_checked_tasks (fun f cdv A outer s H E hr =>
  (s_cons (s_if (t_w (w_or (t_not (t_val (a_call CA_is_sequence hr (by decide) (by rfl) (takes_of rfl rfl rfl rfl) (a_cons (a_pv (pv 0)) a_nil)))) (w_or1 (t_cmp (op_eqD (hu64 hr)) (fun _ => ao_eq) (a_cb call_len_seq (fun _ => ab_len) (by rfl) T.z_len (by decide +kernel) (a_cons (a_pv (pv 0)) a_nil)) a_int (nomark _)))))
    (s_one (s_raise (n := "BadValue") (fx := "at") rfl T.e_BadValue hr (takes_of rfl rfl rfl rfl) a_int (by rfl) (by decide)))
    s_nil)
  (s_cons (s_if (t_cmp op_gt (fun _ => ao_gt) (a_cb call_len_seq (fun _ => ab_len) (by rfl) T.z_len (by decide +kernel) (a_cons (a_pv (pv 0)) a_nil)) (a_gc (C8.pe_gc (by rfl) T.m_MOST_TASKS)) (nomark _))
    (s_one (s_raise (n := "TooMany") (fx := "word") rfl T.e_TooMany hr (takes_of rfl rfl rfl rfl) a_str (by rfl) (by decide)))
    s_nil)
  (s_cons (s_for (passes_of rfl) rfl (i_en (pi_enumS (by rfl) T.z_enumerate (a_cons (a_pv (pv 0)) a_nil))) (g_un rfl (gs_cons (g_nam (pg_name (i := 1) sc_checked_tasks.nd rfl (.inl rfl))) (gs_cons (g_nam (pg_name (i := 2) sc_checked_tasks.nd rfl (.inl rfl))) gs_nil)))
    (s_one (s_if (t_not (t_val (a_call CA_is_task hr (by decide) (by rfl) (takes_of rfl rfl rfl rfl) (a_cons (a_pv (pv 2)) a_nil))))
    (s_one (s_raise (n := "BadTask") (fx := "at") rfl T.e_BadTask hr (takes_of rfl rfl rfl rfl) (a_pv (pv 1)) (by rfl) (by decide)))
    s_nil)))
  (s_one (s_ret (a_cty call_tuple_of (fun _ => ab_tuple) (by rfl) T.z_tuple (by decide +kernel) (a_cons (a_lc (own := [("task", 2)]) (by rfl) sc_checked_tasks.nd (i_seq (a_pv (pv 0))) (blkOk_by (own := [("task", 2)]) (N := ["tasks", "at", "task"]) (sc := defScope s_checked_tasks) (by decide +kernel)) (fun _ _ _ _ _ => (gc_nam (pg_name (i := 2) sc_checked_tasks.nd rfl (Or.inl rfl)) (by decide))) (fun _ _ _ _ _ => if_nil) (fun _ _ _ _ _ => (a_cty call_tuple_of (fun _ => ab_tuple) (by rfl) T.z_tuple (by decide +kernel) (a_cons (a_pv (pv 2)) a_nil)))) a_nil))))))))
theorem CA_are_within (T : Tx K mg kc) : CalA P w K mg base kc 3 "are_within" A_are_within := by
    have CA_is_sequence := CA_is_sequence (P := P) (w := w) (base := base) T
    have CA_is_within := CA_is_within (P := P) (w := w) (base := base) T
    exact Df.calA (k := 2) (keep := false) (N := ["value", "low", "high", "number"]) (ps := ["value", "low", "high"]) T.d_are_within sc_are_within (fun f cdv A outer s H E hr =>
  (s_one (s_ret (a_and (a_call CA_is_sequence hr (by decide) (by rfl) (takes_of rfl rfl rfl rfl) (a_cons (a_pv (pv 0)) a_nil)) (a_one (a_cb (cr_all rfl) (fun _ => ab_all) (by rfl) T.z_all (by decide +kernel) (a_cons (a_lc (own := [("number", 3)]) (by rfl) sc_are_within.nd (i_seq (a_pv (pv 0))) (blkOk_by (own := [("number", 3)]) (N := ["value", "low", "high", "number"]) (sc := defScope s_are_within) (by decide +kernel)) (fun _ _ _ _ _ => (gc_nam (pg_name (i := 3) sc_are_within.nd rfl (Or.inl rfl)) (by decide))) (fun _ _ _ _ _ => if_nil) (fun _ _ _ _ _ => (a_call CA_is_within hr (by decide) (by rfl) takes0 (a_cons (a_pv (pv 3)) (a_cons (a_pv (pv 1)) (a_cons (a_pv (pv 2)) a_nil)))))) a_nil)))))))
theorem CA_is_pair (T : Tx K mg kc) : CalA P w K mg base kc 4 "is_pair" A_is_pair := by
    have CA_has_length := CA_has_length (P := P) (w := w) (base := base) T
    have CA_are_within := CA_are_within (P := P) (w := w) (base := base) T
    exact Df.calA (k := 3) (keep := false) (N := ["value", "tasks"]) (ps := ["value", "tasks"]) T.d_is_pair sc_is_pair (fun f cdv A outer s H E hr =>
  (s_one (s_ret (a_and (a_call CA_has_length hr (by decide) (by rfl) (takes_of rfl rfl rfl rfl) (a_cons (a_pv (pv 0)) (a_cons a_int (a_cons a_int a_nil)))) (a_and (a_call CA_are_within hr (by decide) (by rfl) (takes_of rfl rfl rfl rfl) (a_cons (a_pv (pv 0)) (a_cons a_int (a_cons (a_op op_sub (fun _ => ao_sub) (a_pv (pv 1)) a_int) a_nil)))) (a_one (a_cmp (op_neD (hu64 hr)) (fun _ => ao_ne) (a_ix (a_pv (pv 0)) a_int (fun _ _ => rfl)) (a_ix (a_pv (pv 0)) a_int (fun _ _ => rfl)) (nomark _))))))))
theorem CA_put_behind (T : Tx K mg kc) : CalA P w K mg base kc 1 "put_behind" A_put_behind := by
    exact Df.calA (k := 0) (keep := false) (N := ["behind", "before", "after", "later", "task"]) (ps := ["behind", "before", "after"]) T.d_put_behind sc_put_behind (fun f cdv A outer s H E hr =>
  (s_cons (s_set (i := 3) sc_put_behind.nd rfl (.inl rfl) (a_op op_or (fun _ => ao_or) (a_ix (a_pv (pv 0)) (a_pv (pv 2)) (fun _ _ => rfl)) (a_op op_shl (fun _ => ao_shl) a_int (a_pv (pv 2)))))
  (s_one (s_for (passes_of rfl) rfl (i_rg1 (es := []) (wi := fun _ _ _ => True) (ta := fun _ _ _ => True) (pi_range1 (by rfl) T.z_range (a_cons (a_cb call_len_seq (fun _ => ab_len) (by rfl) T.z_len (by decide +kernel) (a_cons (a_pv (pv 0)) a_nil)) a_nil))) (g_nam (pg_name (i := 4) sc_put_behind.nd rfl (.inl rfl)))
    (s_one (s_if (t_w (w_or (t_cmp (op_eqD (hu64 hr)) (fun _ => ao_eq) (a_pv (pv 4)) (a_pv (pv 1)) (nomark _)) (w_or1 (t_tru (a_op op_and (fun _ => ao_and) (a_op op_shr (fun _ => ao_shr) (a_ix (a_pv (pv 0)) (a_pv (pv 4)) (fun _ _ => rfl)) (a_pv (pv 1))) a_int) (by intro _; rfl)))))
    (s_one (s_asg (a_op op_or (fun _ => ao_or) (a_ix (a_pv (pv 0)) (a_pv (pv 4)) (fun _ _ => rfl)) (a_pv (pv 3))) (g_sub (W := W0) (a_pv (pv 0)) (a_pv (pv 4)))))
    s_nil))))))
theorem CA_checked_order (T : Tx K mg kc) : CalA P w K mg base kc 5 "checked_order" A_checked_order := by
    have CA_is_sequence := CA_is_sequence (P := P) (w := w) (base := base) T
    have CA_is_pair := CA_is_pair (P := P) (w := w) (base := base) T
    have CA_put_behind := CA_put_behind (P := P) (w := w) (base := base) T
    exact Df.calA (k := 4) (keep := false) (N := ["order", "tasks", "kept", "behind", "at", "pair", "before", "after"]) (ps := ["order", "tasks"]) T.d_checked_order sc_checked_order (fun f cdv A outer s H E hr =>
  (s_cons (s_if (t_not (t_val (a_call CA_is_sequence hr (by decide) (by rfl) (takes_of rfl rfl rfl rfl) (a_cons (a_pv (pv 0)) a_nil))))
    (s_one (s_raise (n := "BadValue") (fx := "at") rfl T.e_BadValue hr (takes_of rfl rfl rfl rfl) a_int (by rfl) (by decide)))
    s_nil)
  (s_cons (s_if (t_cmp op_gt (fun _ => ao_gt) (a_cb call_len_seq (fun _ => ab_len) (by rfl) T.z_len (by decide +kernel) (a_cons (a_pv (pv 0)) a_nil)) (a_gc (C8.pe_gc (by rfl) T.m_MOST_PAIRS)) (nomark _))
    (s_one (s_raise (n := "TooMany") (fx := "word") rfl T.e_TooMany hr (takes_of rfl rfl rfl rfl) a_str (by rfl) (by decide)))
    s_nil)
  (s_cons (s_set (i := 2) sc_checked_order.nd rfl (.inl rfl) (a_ls a_nil))
  (s_cons (s_set (i := 3) sc_checked_order.nd rfl (.inl rfl) (a_rep (a_vl (a_cons a_int a_nil)) (a_pv (pv 1))))
  (s_cons (s_for (passes_of rfl) rfl (i_en (pi_enumS (by rfl) T.z_enumerate (a_cons (a_pv (pv 0)) a_nil))) (g_un rfl (gs_cons (g_nam (pg_name (i := 4) sc_checked_order.nd rfl (.inl rfl))) (gs_cons (g_nam (pg_name (i := 5) sc_checked_order.nd rfl (.inl rfl))) gs_nil)))
    (s_cons (s_if (t_not (t_val (a_call CA_is_pair hr (by decide) (by rfl) (takes_of rfl rfl rfl rfl) (a_cons (a_pv (pv 5)) (a_cons (a_pv (pv 1)) a_nil)))))
    (s_one (s_raise (n := "BadPair") (fx := "at") rfl T.e_BadPair hr (takes_of rfl rfl rfl rfl) (a_pv (pv 4)) (by rfl) (by decide)))
    s_nil)
  (s_cons (s_asg (a_pv (pv 5)) (g_un rfl (gs_cons (g_nam (pg_name (i := 6) sc_checked_order.nd rfl (.inl rfl))) (gs_cons (g_nam (pg_name (i := 7) sc_checked_order.nd rfl (.inl rfl))) gs_nil))))
  (s_cons (s_if (t_w (w_or (t_cmp (op_inA (hu65 hr)) (fun _ => ao_in) (a_tup (a_cons (a_pv (pv 6)) (a_cons (a_pv (pv 7)) a_nil))) (a_pv (pv 2)) (by rfl)) (w_or1 (t_tru (a_op op_and (fun _ => ao_and) (a_op op_shr (fun _ => ao_shr) (a_ix (a_pv (pv 3)) (a_pv (pv 7)) (fun _ _ => rfl)) (a_pv (pv 6))) a_int) (by intro _; rfl)))))
    (s_one (s_raise (n := "BadPair") (fx := "at") rfl T.e_BadPair hr (takes_of rfl rfl rfl rfl) (a_pv (pv 4)) (by rfl) (by decide)))
    s_nil)
  (s_cons (s_exp (a_app (a_pv (pv 2)) (a_tup (a_cons (a_pv (pv 6)) (a_cons (a_pv (pv 7)) a_nil)))))
  (s_one (s_exp (a_call CA_put_behind hr (by decide) (by rfl) (takes_of rfl rfl rfl rfl) (a_cons (a_pv (pv 3)) (a_cons (a_pv (pv 6)) (a_cons (a_pv (pv 7)) a_nil)))))))))))
  (s_one (s_ret (a_cty call_tuple_of (fun _ => ab_tuple) (by rfl) T.z_tuple (by decide +kernel) (a_cons (a_pv (pv 2)) a_nil))))))))))
theorem CA_is_ascending (T : Tx K mg kc) : CalA P w K mg base kc 3 "is_ascending" A_is_ascending := by
    have CA_is_sequence := CA_is_sequence (P := P) (w := w) (base := base) T
    have CA_is_within := CA_is_within (P := P) (w := w) (base := base) T
    exact Df.calA (k := 2) (keep := false) (N := ["value", "many", "least", "number"]) (ps := ["value", "many"]) T.d_is_ascending sc_is_ascending (fun f cdv A outer s H E hr =>
  (s_cons (s_if (t_not (t_val (a_call CA_is_sequence hr (by decide) (by rfl) (takes_of rfl rfl rfl rfl) (a_cons (a_pv (pv 0)) a_nil))))
    (s_one (s_ret a_bl))
    s_nil)
  (s_cons (s_set (i := 2) sc_is_ascending.nd rfl (.inl rfl) a_int)
  (s_cons (s_for (passes_of rfl) rfl (i_seq (a_pv (pv 0))) (g_nam (pg_name (i := 3) sc_is_ascending.nd rfl (.inl rfl)))
    (s_cons (s_if (t_not (t_val (a_call CA_is_within hr (by decide) (by rfl) (takes_of rfl rfl rfl rfl) (a_cons (a_pv (pv 3)) (a_cons (a_pv (pv 2)) (a_cons (a_op op_sub (fun _ => ao_sub) (a_pv (pv 1)) a_int) a_nil))))))
    (s_one (s_ret a_bl))
    s_nil)
  (s_one (s_set (i := 2) sc_is_ascending.nd rfl (.inl rfl) (a_op op_addA (fun _ => ao_add) (a_pv (pv 3)) a_int)))))
  (s_one (s_ret a_bl))))))
theorem CA_checked_models (T : Tx K mg kc) : CalA P w K mg base kc 4 "checked_models" A_checked_models := by
    have CA_is_sequence := CA_is_sequence (P := P) (w := w) (base := base) T
    have CA_is_ascending := CA_is_ascending (P := P) (w := w) (base := base) T
    exact Df.calA (k := 3) (keep := false) (N := ["models", "tasks", "at", "model"]) (ps := ["models", "tasks"]) T.d_checked_models sc_checked_models (fun f cdv A outer s H E hr =>
  (s_cons (s_if (t_w (w_or (t_not (t_val (a_call CA_is_sequence hr (by decide) (by rfl) (takes_of rfl rfl rfl rfl) (a_cons (a_pv (pv 0)) a_nil)))) (w_or1 (t_cmp (op_eqD (hu64 hr)) (fun _ => ao_eq) (a_cb call_len_seq (fun _ => ab_len) (by rfl) T.z_len (by decide +kernel) (a_cons (a_pv (pv 0)) a_nil)) a_int (nomark _)))))
    (s_one (s_raise (n := "BadValue") (fx := "at") rfl T.e_BadValue hr (takes_of rfl rfl rfl rfl) a_int (by rfl) (by decide)))
    s_nil)
  (s_cons (s_if (t_cmp op_gt (fun _ => ao_gt) (a_cb call_len_seq (fun _ => ab_len) (by rfl) T.z_len (by decide +kernel) (a_cons (a_pv (pv 0)) a_nil)) (a_gc (C8.pe_gc (by rfl) T.m_MOST_MODELS)) (nomark _))
    (s_one (s_raise (n := "TooMany") (fx := "word") rfl T.e_TooMany hr (takes_of rfl rfl rfl rfl) a_str (by rfl) (by decide)))
    s_nil)
  (s_cons (s_for (passes_of rfl) rfl (i_en (pi_enumS (by rfl) T.z_enumerate (a_cons (a_pv (pv 0)) a_nil))) (g_un rfl (gs_cons (g_nam (pg_name (i := 2) sc_checked_models.nd rfl (.inl rfl))) (gs_cons (g_nam (pg_name (i := 3) sc_checked_models.nd rfl (.inl rfl))) gs_nil)))
    (s_one (s_if (t_not (t_val (a_call CA_is_ascending hr (by decide) (by rfl) (takes_of rfl rfl rfl rfl) (a_cons (a_pv (pv 3)) (a_cons (a_pv (pv 1)) a_nil)))))
    (s_one (s_raise (n := "BadModel") (fx := "at") rfl T.e_BadModel hr (takes_of rfl rfl rfl rfl) (a_pv (pv 2)) (by rfl) (by decide)))
    s_nil)))
  (s_one (s_ret (a_cty call_tuple_of (fun _ => ab_tuple) (by rfl) T.z_tuple (by decide +kernel) (a_cons (a_lc (own := [("model", 3)]) (by rfl) sc_checked_models.nd (i_seq (a_pv (pv 0))) (blkOk_by (own := [("model", 3)]) (N := ["models", "tasks", "at", "model"]) (sc := defScope s_checked_models) (by decide +kernel)) (fun _ _ _ _ _ => (gc_nam (pg_name (i := 3) sc_checked_models.nd rfl (Or.inl rfl)) (by decide))) (fun _ _ _ _ _ => if_nil) (fun _ _ _ _ _ => (a_cty call_tuple_of (fun _ => ab_tuple) (by rfl) T.z_tuple (by decide +kernel) (a_cons (a_pv (pv 3)) a_nil)))) a_nil))))))))
theorem CA_is_arc (T : Tx K mg kc) : CalA P w K mg base kc 3 "is_arc" A_is_arc := by
    have CA_has_length := CA_has_length (P := P) (w := w) (base := base) T
    have CA_is_within := CA_is_within (P := P) (w := w) (base := base) T
    exact Df.calA (k := 2) (keep := false) (N := ["value", "models", "states"]) (ps := ["value", "models", "states"]) T.d_is_arc sc_is_arc (fun f cdv A outer s H E hr =>
  (s_one (s_ret (a_and (a_call CA_has_length hr (by decide) (by rfl) (takes_of rfl rfl rfl rfl) (a_cons (a_pv (pv 0)) (a_cons a_int (a_cons a_int a_nil)))) (a_and (a_call CA_is_within hr (by decide) (by rfl) (takes_of rfl rfl rfl rfl) (a_cons (a_ix (a_pv (pv 0)) a_int (fun _ _ => rfl)) (a_cons a_int (a_cons (a_op op_sub (fun _ => ao_sub) (a_pv (pv 1)) a_int) a_nil)))) (a_one (a_call CA_is_within hr (by decide) (by rfl) (takes_of rfl rfl rfl rfl) (a_cons (a_ix (a_pv (pv 0)) a_int (fun _ _ => rfl)) (a_cons a_int (a_cons (a_op op_sub (fun _ => ao_sub) (a_pv (pv 2)) a_int) a_nil))))))))))
theorem CA_is_state (T : Tx K mg kc) : CalA P w K mg base kc 4 "is_state" A_is_state := by
    have CA_has_length := CA_has_length (P := P) (w := w) (base := base) T
    have CA_is_arc := CA_is_arc (P := P) (w := w) (base := base) T
    exact Df.calA (k := 3) (keep := false) (N := ["value", "models", "states", "seen", "arc"]) (ps := ["value", "models", "states"]) T.d_is_state sc_is_state (fun f cdv A outer s H E hr =>
  (s_cons (s_if (t_not (t_val (a_call CA_has_length hr (by decide) (by rfl) (takes_of rfl rfl rfl rfl) (a_cons (a_pv (pv 0)) (a_cons a_int (a_cons (a_gc (C8.pe_gc (by rfl) T.m_MOST_ARCS)) a_nil))))))
    (s_one (s_ret a_bl))
    s_nil)
  (s_cons (s_set (i := 3) sc_is_state.nd rfl (.inl rfl) (a_ls a_nil))
  (s_cons (s_for (passes_of rfl) rfl (i_seq (a_pv (pv 0))) (g_nam (pg_name (i := 4) sc_is_state.nd rfl (.inl rfl)))
    (s_cons (s_if (t_w (w_or (t_not (t_val (a_call CA_is_arc hr (by decide) (by rfl) (takes_of rfl rfl rfl rfl) (a_cons (a_pv (pv 4)) (a_cons (a_pv (pv 1)) (a_cons (a_pv (pv 2)) a_nil)))))) (w_or1 (t_cmp (op_inA (hu65 hr)) (fun _ => ao_in) (a_cty call_tuple_of (fun _ => ab_tuple) (by rfl) T.z_tuple (by decide +kernel) (a_cons (a_pv (pv 4)) a_nil)) (a_pv (pv 3)) (by rfl)))))
    (s_one (s_ret a_bl))
    s_nil)
  (s_one (s_exp (a_app (a_pv (pv 3)) (a_cty call_tuple_of (fun _ => ab_tuple) (by rfl) T.z_tuple (by decide +kernel) (a_cons (a_pv (pv 4)) a_nil)))))))
  (s_one (s_ret a_bl))))))
theorem CA_checked_states (T : Tx K mg kc) : CalA P w K mg base kc 5 "checked_states" A_checked_states := by
    have CA_is_sequence := CA_is_sequence (P := P) (w := w) (base := base) T
    have CA_is_state := CA_is_state (P := P) (w := w) (base := base) T
    exact Df.calA (k := 4) (keep := false) (N := ["states", "models", "at", "state", "arc"]) (ps := ["states", "models"]) T.d_checked_states sc_checked_states (fun f cdv A outer s H E hr =>
  (s_cons (s_if (t_w (w_or (t_not (t_val (a_call CA_is_sequence hr (by decide) (by rfl) (takes_of rfl rfl rfl rfl) (a_cons (a_pv (pv 0)) a_nil)))) (w_or1 (t_cmp (op_eqD (hu64 hr)) (fun _ => ao_eq) (a_cb call_len_seq (fun _ => ab_len) (by rfl) T.z_len (by decide +kernel) (a_cons (a_pv (pv 0)) a_nil)) a_int (nomark _)))))
    (s_one (s_raise (n := "BadValue") (fx := "at") rfl T.e_BadValue hr (takes_of rfl rfl rfl rfl) a_int (by rfl) (by decide)))
    s_nil)
  (s_cons (s_if (t_cmp op_gt (fun _ => ao_gt) (a_cb call_len_seq (fun _ => ab_len) (by rfl) T.z_len (by decide +kernel) (a_cons (a_pv (pv 0)) a_nil)) (a_gc (C8.pe_gc (by rfl) T.m_MOST_STATES)) (nomark _))
    (s_one (s_raise (n := "TooMany") (fx := "word") rfl T.e_TooMany hr (takes_of rfl rfl rfl rfl) a_str (by rfl) (by decide)))
    s_nil)
  (s_cons (s_for (passes_of rfl) rfl (i_en (pi_enumS (by rfl) T.z_enumerate (a_cons (a_pv (pv 0)) a_nil))) (g_un rfl (gs_cons (g_nam (pg_name (i := 2) sc_checked_states.nd rfl (.inl rfl))) (gs_cons (g_nam (pg_name (i := 3) sc_checked_states.nd rfl (.inl rfl))) gs_nil)))
    (s_one (s_if (t_not (t_val (a_call CA_is_state hr (by decide) (by rfl) (takes_of rfl rfl rfl rfl) (a_cons (a_pv (pv 3)) (a_cons (a_pv (pv 1)) (a_cons (a_cb call_len_seq (fun _ => ab_len) (by rfl) T.z_len (by decide +kernel) (a_cons (a_pv (pv 0)) a_nil)) a_nil))))))
    (s_one (s_raise (n := "BadState") (fx := "at") rfl T.e_BadState hr (takes_of rfl rfl rfl rfl) (a_pv (pv 2)) (by rfl) (by decide)))
    s_nil)))
  (s_one (s_ret (a_cty call_tuple_of (fun _ => ab_tuple) (by rfl) T.z_tuple (by decide +kernel) (a_cons (a_lc (own := [("state", 3)]) (by rfl) sc_checked_states.nd (i_seq (a_pv (pv 0))) (blkOk_by (own := [("state", 3)]) (N := ["states", "models", "at", "state", "arc"]) (sc := defScope s_checked_states) (by decide +kernel)) (fun _ _ _ _ _ => (gc_nam (pg_name (i := 3) sc_checked_states.nd rfl (Or.inl rfl)) (by decide))) (fun _ _ _ _ _ => if_nil) (fun _ _ _ _ _ => (a_cty call_tuple_of (fun _ => ab_tuple) (by rfl) T.z_tuple (by decide +kernel) (a_cons (a_lc (own := [("arc", 4)]) (by rfl) sc_checked_states.nd (i_seq (a_pv (pv 3))) (blkOk_by (own := [("arc", 4)]) (by rfl)) (fun _ _ _ _ _ => (gc_nam (pg_name (i := 4) sc_checked_states.nd rfl (Or.inl rfl)) (by decide))) (fun _ _ _ _ _ => if_nil) (fun _ _ _ _ _ => (a_cty call_tuple_of (fun _ => ab_tuple) (by rfl) T.z_tuple (by decide +kernel) (a_cons (a_pv (pv 4)) a_nil)))) a_nil)))) a_nil))))))))
theorem CA_is_slips (T : Tx K mg kc) : CalA P w K mg base kc 3 "is_slips" A_is_slips := by
    have CA_is_within := CA_is_within (P := P) (w := w) (base := base) T
    exact Df.calA (k := 2) (keep := false) (N := ["value"]) (ps := ["value"]) T.d_is_slips sc_is_slips (fun f cdv A outer s H E hr =>
  (s_one (s_ret (a_or (a_cmp op_isN (fun _ => ao_isN) (a_pv (pv 0)) a_non (nomark _)) (a_one (a_call CA_is_within hr (by decide) (by rfl) (takes_of rfl rfl rfl rfl) (a_cons (a_pv (pv 0)) (a_cons a_int (a_cons (a_gc (C8.pe_gc (by rfl) T.m_MOST_SLIPS)) a_nil)))))))))
theorem MK_Line (T : Tx K mg kc) : MakKA P w K mg base kc 6 "Line" 5 ["slips"] A_Line___init__ := by
    have CA_checked_tasks := CA_checked_tasks (P := P) (w := w) (base := base) T
    have CA_checked_order := CA_checked_order (P := P) (w := w) (base := base) T
    have CA_checked_models := CA_checked_models (P := P) (w := w) (base := base) T
    have CA_checked_states := CA_checked_states (P := P) (w := w) (base := base) T
    have CA_is_within := CA_is_within (P := P) (w := w) (base := base) T
    have CA_is_slips := CA_is_slips (P := P) (w := w) (base := base) T
    obtain ⟨f, fd, M, F⟩ := T.i_Line
    obtain ⟨mv, b⟩ := F.kbinds0 (ps := ["self", "tasks", "order", "models", "states", "start", "slips"]) 6 ["slips"] [] (fun us _ ws => us ++ ws) (by simp) (by simp) (fun r1 _ r3 => r1.append r3)
      (fun D doc pm an cdv ct us mv ws h1 h2 h3 => match us, mv, ws, h1, h2, h3 with | [_, _, _, _, _, _], [], [_], _, _, _ => rfl)
    exact ⟨f, fd, _, _, M, FunD.okA (k := 5) (keep := false) (N := ["self", "tasks", "order", "models", "states", "start", "slips", "kept_tasks", "kept_order", "kept_models", "kept_states"]) (ps := ["self", "tasks", "order", "models", "states", "start", "slips"]) F sc_Line___init__ (fun cdv A outer s H E hr =>
  (s_cons (s_set (i := 7) sc_Line___init__.nd rfl (.inl rfl) (a_call CA_checked_tasks hr (by decide) (by rfl) (takes_of rfl rfl rfl rfl) (a_cons (a_pv (pv 1)) a_nil)))
  (s_cons (s_set (i := 8) sc_Line___init__.nd rfl (.inl rfl) (a_call CA_checked_order hr (by decide) (by rfl) (takes_of rfl rfl rfl rfl) (a_cons (a_pv (pv 2)) (a_cons (a_cb call_len_seq (fun _ => ab_len) (by rfl) T.z_len (by decide +kernel) (a_cons (a_pv (pv 7)) a_nil)) a_nil))))
  (s_cons (s_set (i := 9) sc_Line___init__.nd rfl (.inl rfl) (a_call CA_checked_models hr (by decide) (by rfl) (takes_of rfl rfl rfl rfl) (a_cons (a_pv (pv 3)) (a_cons (a_cb call_len_seq (fun _ => ab_len) (by rfl) T.z_len (by decide +kernel) (a_cons (a_pv (pv 7)) a_nil)) a_nil))))
  (s_cons (s_set (i := 10) sc_Line___init__.nd rfl (.inl rfl) (a_call CA_checked_states hr (by decide) (by rfl) (takes_of rfl rfl rfl rfl) (a_cons (a_pv (pv 4)) (a_cons (a_cb call_len_seq (fun _ => ab_len) (by rfl) T.z_len (by decide +kernel) (a_cons (a_pv (pv 9)) a_nil)) a_nil))))
  (s_cons (s_if (t_not (t_val (a_call CA_is_within hr (by decide) (by rfl) (takes_of rfl rfl rfl rfl) (a_cons (a_pv (pv 5)) (a_cons a_int (a_cons (a_op op_sub (fun _ => ao_sub) (a_cb call_len_seq (fun _ => ab_len) (by rfl) T.z_len (by decide +kernel) (a_cons (a_pv (pv 10)) a_nil)) a_int) a_nil))))))
    (s_one (s_raise (n := "BadValue") (fx := "at") rfl T.e_BadValue hr (takes_of rfl rfl rfl rfl) a_int (by rfl) (by decide)))
    s_nil)
  (s_cons (s_if (t_not (t_val (a_call CA_is_slips hr (by decide) (by rfl) (takes_of rfl rfl rfl rfl) (a_cons (a_pv (pv 6)) a_nil))))
    (s_one (s_raise (n := "BadValue") (fx := "at") rfl T.e_BadValue hr (takes_of rfl rfl rfl rfl) a_int (by rfl) (by decide)))
    s_nil)
  (s_cons (s_fld T.f__tasks (a_pv (pv 0)) (a_pv (pv 7)) rfl)
  (s_cons (s_fld T.f__order (a_pv (pv 0)) (a_pv (pv 8)) rfl)
  (s_cons (s_fld T.f__models (a_pv (pv 0)) (a_pv (pv 9)) rfl)
  (s_cons (s_fld T.f__states (a_pv (pv 0)) (a_pv (pv 10)) rfl)
  (s_cons (s_fld T.f__start (a_pv (pv 0)) (a_pv (pv 5)) rfl)
  (s_one (s_fld T.f__slips (a_pv (pv 0)) (a_pv (pv 6)) rfl)))))))))))))), T.g_Line, b⟩
theorem CA__law_made (T : Tx K mg kc) : CalA P w K mg base kc 8 "_law_made" A__law_made := by
    have MK_Line := MK_Line (P := P) (w := w) (base := base) T
    exact Df.calA (k := 7) (keep := false) (N := ["line", "turn", "jobs"]) (ps := ["line", "turn"]) T.d__law_made sc__law_made (fun f cdv A outer s H E hr =>
  (s_cons (s_set (i := 2) sc__law_made.nd rfl (.inl rfl) (a_call (CA__law_loose T 4) hr (by decide) (by rfl) (takes_of rfl rfl rfl rfl) (a_cons (a_ix (a_pv (pv 0)) a_int (fun _ _ => rfl)) (a_cons (a_pv (pv 1)) a_nil))))
  (s_one (s_ret (a_make (ks := ["slips"]) (keep := false) MK_Line hr (by decide) (by rfl) (takes_of rfl rfl rfl rfl) (a_cons (a_pv (pv 2)) (a_cons (a_call (CA__law_loose T 4) hr (by decide) (by rfl) (takes_of rfl rfl rfl rfl) (a_cons (a_ix (a_pv (pv 0)) a_int (fun _ _ => rfl)) (a_cons (a_op op_addA (fun _ => ao_add) (a_pv (pv 1)) a_int) a_nil))) (a_cons (a_call (CA__law_loose T 4) hr (by decide) (by rfl) (takes_of rfl rfl rfl rfl) (a_cons (a_ix (a_pv (pv 0)) a_int (fun _ _ => rfl)) (a_cons (a_pv (pv 1)) a_nil))) (a_cons (a_call (CA__law_loose T 4) hr (by decide) (by rfl) (takes_of rfl rfl rfl rfl) (a_cons (a_ix (a_pv (pv 0)) a_int (fun _ _ => rfl)) (a_cons (a_pv (pv 1)) a_nil))) (a_cons (a_ix (a_pv (pv 0)) a_int (fun _ _ => rfl)) a_nil))))) (k_cons (a_ix (a_pv (pv 0)) a_int (fun _ _ => rfl)) k_nil))))))
theorem CA_with_slips (T : Tx K mg kc) : CalA P w K mg base kc 8 "with_slips" A_with_slips := by
    have CA_is_slips := CA_is_slips (P := P) (w := w) (base := base) T
    have MK_Line := MK_Line (P := P) (w := w) (base := base) T
    exact Df.calA (k := 7) (keep := false) (N := ["line", "slips"]) (ps := ["line", "slips"]) T.d_with_slips sc_with_slips (fun f cdv A outer s H E hr =>
  (s_cons (s_if (t_not (t_val (a_call CA_is_slips hr (by decide) (by rfl) (takes_of rfl rfl rfl rfl) (a_cons (a_pv (pv 1)) a_nil))))
    (s_one (s_raise (n := "BadValue") (fx := "at") rfl T.e_BadValue hr (takes_of rfl rfl rfl rfl) a_int (by rfl) (by decide)))
    s_nil)
  (s_one (s_ret (a_make (ks := ["slips"]) (keep := false) MK_Line hr (by decide) (by rfl) (takes_of rfl rfl rfl rfl) (a_cons (a_prp T.q_tasks T.cl_Line hr (by decide) (a_pv (pv 0))) (a_cons (a_prp T.q_order T.cl_Line hr (by decide) (a_pv (pv 0))) (a_cons (a_prp T.q_models T.cl_Line hr (by decide) (a_pv (pv 0))) (a_cons (a_prp T.q_states T.cl_Line hr (by decide) (a_pv (pv 0))) (a_cons (a_prp T.q_start T.cl_Line hr (by decide) (a_pv (pv 0))) a_nil))))) (k_cons (a_pv (pv 1)) k_nil))))))
theorem CA_with_times (T : Tx K mg kc) : CalA P w K mg base kc 8 "with_times" A_with_times := by
    have CA_is_sequence := CA_is_sequence (P := P) (w := w) (base := base) T
    have MK_Line := MK_Line (P := P) (w := w) (base := base) T
    exact Df.calA (k := 7) (keep := false) (N := ["line", "tasks"]) (ps := ["line", "tasks"]) T.d_with_times sc_with_times (fun f cdv A outer s H E hr =>
  (s_cons (s_if (t_w (w_or (t_not (t_val (a_call CA_is_sequence hr (by decide) (by rfl) (takes_of rfl rfl rfl rfl) (a_cons (a_pv (pv 1)) a_nil)))) (w_or1 (t_cmp (op_neD (hu64 hr)) (fun _ => ao_ne) (a_cb call_len_seq (fun _ => ab_len) (by rfl) T.z_len (by decide +kernel) (a_cons (a_pv (pv 1)) a_nil)) (a_cb call_len_seq (fun _ => ab_len) (by rfl) T.z_len (by decide +kernel) (a_cons (a_prp T.q_tasks T.cl_Line hr (by decide) (a_pv (pv 0))) a_nil)) (nomark _)))))
    (s_one (s_raise (n := "BadValue") (fx := "at") rfl T.e_BadValue hr (takes_of rfl rfl rfl rfl) a_int (by rfl) (by decide)))
    s_nil)
  (s_one (s_ret (a_make (ks := ["slips"]) (keep := false) MK_Line hr (by decide) (by rfl) (takes_of rfl rfl rfl rfl) (a_cons (a_pv (pv 1)) (a_cons (a_prp T.q_order T.cl_Line hr (by decide) (a_pv (pv 0))) (a_cons (a_prp T.q_models T.cl_Line hr (by decide) (a_pv (pv 0))) (a_cons (a_prp T.q_states T.cl_Line hr (by decide) (a_pv (pv 0))) (a_cons (a_prp T.q_start T.cl_Line hr (by decide) (a_pv (pv 0))) a_nil))))) (k_cons (a_prp T.q_slips T.cl_Line hr (by decide) (a_pv (pv 0))) k_nil))))))
theorem CA_repeated (T : Tx K mg kc) : CalA P w K mg base kc 8 "repeated" A_repeated := by
    have CA_has_length := CA_has_length (P := P) (w := w) (base := base) T
    have CA_are_within := CA_are_within (P := P) (w := w) (base := base) T
    have MK_Line := MK_Line (P := P) (w := w) (base := base) T
    exact Df.calA (k := 7) (keep := false) (N := ["line", "row", "last", "states", "at", "model"]) (ps := ["line", "row"]) T.d_repeated sc_repeated (fun f cdv A outer s H E hr =>
  (s_cons (s_if (t_w (w_or (t_not (t_val (a_call CA_has_length hr (by decide) (by rfl) (takes_of rfl rfl rfl rfl) (a_cons (a_pv (pv 1)) (a_cons a_int (a_cons (a_gc (C8.pe_gc (by rfl) T.m_MOST_REPEATED)) a_nil)))))) (w_or1 (t_not (t_val (a_call CA_are_within hr (by decide) (by rfl) (takes_of rfl rfl rfl rfl) (a_cons (a_pv (pv 1)) (a_cons a_int (a_cons (a_op op_sub (fun _ => ao_sub) (a_cb call_len_seq (fun _ => ab_len) (by rfl) T.z_len (by decide +kernel) (a_cons (a_prp T.q_models T.cl_Line hr (by decide) (a_pv (pv 0))) a_nil)) a_int) a_nil)))))))))
    (s_one (s_raise (n := "BadValue") (fx := "at") rfl T.e_BadValue hr (takes_of rfl rfl rfl rfl) a_int (by rfl) (by decide)))
    s_nil)
  (s_cons (s_set (i := 2) sc_repeated.nd rfl (.inr rfl) (a_op op_sub (fun _ => ao_sub) (a_cb call_len_seq (fun _ => ab_len) (by rfl) T.z_len (by decide +kernel) (a_cons (a_pv (pv 1)) a_nil)) a_int))
  (s_cons (s_setLc (own := [("at", 4), ("model", 5)]) (i := 3) rfl sc_repeated.nd rfl rfl (sw_true rfl rfl rfl (by decide +kernel)) (i_en (pi_enumS (by rfl) T.z_enumerate (a_cons (a_pv (pv 1)) a_nil))) (blkOk_by (own := [("at", 4), ("model", 5)]) (N := ["line", "row", "last", "states", "at", "model"]) (sc := defScope s_repeated) (by decide +kernel)) (fun _ _ _ _ _ => (gc_un (by rfl) (gsc_cons (gc_nam (pg_name (i := 4) sc_repeated.nd rfl (Or.inl rfl)) (by decide)) (gsc_cons (gc_nam (pg_name (i := 5) sc_repeated.nd rfl (Or.inl rfl)) (by decide)) gsc_nil)))) (fun _ _ _ _ _ => if_nil) (fun _ _ _ _ _ => (a_vl (a_cons (a_tup (a_cons (a_pv (pv 5)) (a_cons (a_if (t_cmp op_lt (fun _ => ao_lt) (a_pv (pv 4)) (a_pv (pv 2)) (nomark _)) (a_op op_addA (fun _ => ao_add) (a_pv (pv 4)) a_int) a_int) a_nil))) a_nil))))
  (s_one (s_ret (a_make (ks := ["slips"]) (keep := false) MK_Line hr (by decide) (by rfl) (takes_of rfl rfl rfl rfl) (a_cons (a_prp T.q_tasks T.cl_Line hr (by decide) (a_pv (pv 0))) (a_cons (a_prp T.q_order T.cl_Line hr (by decide) (a_pv (pv 0))) (a_cons (a_prp T.q_models T.cl_Line hr (by decide) (a_pv (pv 0))) (a_cons (a_pv (pv 3)) (a_cons a_int a_nil))))) (k_cons (a_prp T.q_slips T.cl_Line hr (by decide) (a_pv (pv 0))) k_nil))))))))
theorem CK_free_line (T : Tx K mg kc) : CalKA P w K mg base kc 8 "free_line" 3 ["slips"] A_free_line := by
    have CA_is_sequence := CA_is_sequence (P := P) (w := w) (base := base) T
    have MK_Line := MK_Line (P := P) (w := w) (base := base) T
    obtain ⟨f, fd, F, hm⟩ := T.i_free_line
    obtain ⟨mv, b⟩ := F.kbinds0 (ps := ["tasks", "order", "models", "slips"]) 3 ["slips"] [] (fun us _ ws => us ++ ws) (by simp) (by simp) (fun r1 _ r3 => r1.append r3)
      (fun D doc pm an cdv ct us mv ws h1 h2 h3 => match us, mv, ws, h1, h2, h3 with | [_, _, _], [], [_], _, _, _ => rfl)
    exact ⟨f, fd, _, _, FunD.okA (k := 7) (keep := false) (N := ["tasks", "order", "models", "slips", "many", "state", "model"]) (ps := ["tasks", "order", "models", "slips"]) F sc_free_line (fun cdv A outer s H E hr =>
  (s_cons (s_set (i := 4) sc_free_line.nd rfl (.inl rfl) (a_if (t_val (a_call CA_is_sequence hr (by decide) (by rfl) (takes_of rfl rfl rfl rfl) (a_cons (a_pv (pv 2)) a_nil))) (a_cb call_len_seq (fun _ => ab_len) (by rfl) T.z_len (by decide +kernel) (a_cons (a_pv (pv 2)) a_nil)) a_int))
  (s_cons (s_setLc (own := [("model", 6)]) (i := 5) rfl sc_free_line.nd rfl rfl (sw_true rfl rfl rfl (by decide +kernel)) (i_rg1 (es := []) (wi := fun _ _ _ => True) (ta := fun _ _ _ => True) (pi_range1 (by rfl) T.z_range (a_cons (a_pv (pv 4)) a_nil))) (blkOk_by (own := [("model", 6)]) (N := ["tasks", "order", "models", "slips", "many", "state", "model"]) (sc := defScope s_free_line) (by decide +kernel)) (fun _ _ _ _ _ => (gc_nam (pg_name (i := 6) sc_free_line.nd rfl (Or.inl rfl)) (by decide))) (fun _ _ _ _ _ => if_nil) (fun _ _ _ _ _ => (a_tup (a_cons (a_pv (pv 6)) (a_cons a_int a_nil)))))
  (s_one (s_ret (a_make (ks := ["slips"]) (keep := false) MK_Line hr (by decide) (by rfl) (takes_of rfl rfl rfl rfl) (a_cons (a_pv (pv 0)) (a_cons (a_pv (pv 1)) (a_cons (a_pv (pv 2)) (a_cons (a_vl (a_cons (a_pv (pv 5)) a_nil)) (a_cons a_int a_nil))))) (k_cons (a_pv (pv 3)) k_nil))))))), hm, F.kp, b⟩
theorem CA__law_made_fault (T : Tx K mg kc) : CalA P w K mg base kc 9 "_law_made_fault" A__law_made_fault := by
    have CA_with_slips := CA_with_slips (P := P) (w := w) (base := base) T
    have CA_with_times := CA_with_times (P := P) (w := w) (base := base) T
    have CA_repeated := CA_repeated (P := P) (w := w) (base := base) T
    have CK_free_line := CK_free_line (P := P) (w := w) (base := base) T
    exact Df.calA (k := 8) (keep := false) (N := ["kind", "first", "second", "third", "fourth", "error"]) (ps := ["kind", "first", "second", "third", "fourth"]) T.d__law_made_fault sc__law_made_fault (fun f cdv A outer s H E hr =>
  (s_cons (s_try rfl rfl sc__law_made_fault.nd (takes_of rfl rfl rfl rfl) T.ex (by decide)
    (fun W pn xe tk ps => (s_one (s_if (t_cmp (op_eqD (hu64 hr)) (fun _ => ao_eq) (a_pv (pv 0)) a_int (nomark _))
    (s_one (s_exp (a_call CA_with_slips hr (by decide) (by rfl) tk (a_cons (a_pv (pv 1)) (a_cons (a_pv (pv 2)) a_nil)))))
    (s_one (s_if (t_cmp (op_eqD (hu64 hr)) (fun _ => ao_eq) (a_pv (pv 0)) a_int (nomark _))
    (s_one (s_exp (a_call CA_with_times hr (by decide) (by rfl) tk (a_cons (a_pv (pv 1)) (a_cons (a_pv (pv 2)) a_nil)))))
    (s_one (s_if (t_cmp (op_eqD (hu64 hr)) (fun _ => ao_eq) (a_pv (pv 0)) a_int (nomark _))
    (s_one (s_exp (a_call CA_repeated hr (by decide) (by rfl) tk (a_cons (a_pv (pv 1)) (a_cons (a_pv (pv 2)) a_nil)))))
    (s_one (s_exp (a_callK (ks := ["slips"]) CK_free_line hr (by decide) (by rfl) tk (a_cons (a_pv (pv 1)) (a_cons (a_pv (pv 2)) (a_cons (a_pv (pv 3)) a_nil))) (k_cons (a_pv (pv 4)) k_nil)))))))))))
    (HdA.cons (n := "BadValue") (fx := "at") (i := 5) (f := (fun x => .tup [.str "value", x])) rfl T.e_BadValue ⟨rfl, by decide, Or.inl T.g_BadValue⟩ rfl rfl
      (fun _ _ _ _ _ hz hf => su_tup T.t_BadValue.choose_spec.choose_spec hz hf (pv 5) (by rfl)) (HdA.cons (n := "BadTask") (fx := "at") (i := 5) (f := (fun x => .tup [.str "task", x])) rfl T.e_BadTask ⟨rfl, by decide, Or.inl T.g_BadTask⟩ rfl rfl
      (fun _ _ _ _ _ hz hf => su_tup T.t_BadTask.choose_spec.choose_spec hz hf (pv 5) (by rfl)) (HdA.cons (n := "BadPair") (fx := "at") (i := 5) (f := (fun x => .tup [.str "pair", x])) rfl T.e_BadPair ⟨rfl, by decide, Or.inl T.g_BadPair⟩ rfl rfl
      (fun _ _ _ _ _ hz hf => su_tup T.t_BadPair.choose_spec.choose_spec hz hf (pv 5) (by rfl)) (HdA.cons (n := "BadModel") (fx := "at") (i := 5) (f := (fun x => .tup [.str "model", x])) rfl T.e_BadModel ⟨rfl, by decide, Or.inl T.g_BadModel⟩ rfl rfl
      (fun _ _ _ _ _ hz hf => su_tup T.t_BadModel.choose_spec.choose_spec hz hf (pv 5) (by rfl)) (HdA.cons (n := "TooMany") (fx := "word") (i := 5) (f := (fun x => .tup [.str "many", x])) rfl T.e_TooMany ⟨rfl, by decide, Or.inl T.g_TooMany⟩ rfl rfl
      (fun _ _ _ _ _ hz hf => su_tup T.t_TooMany.choose_spec.choose_spec hz hf (pv 5) (by rfl)) HdA.nil))))))
  (s_one (s_ret a_non))))
theorem CA__law_set (T : Tx K mg kc) : CalA P w K mg base kc 1 "_law_set" A__law_set := by
    exact Df.calA (k := 0) (keep := false) (N := ["values", "at", "value", "made"]) (ps := ["values", "at", "value"]) T.d__law_set sc__law_set (fun f cdv A outer s H E hr =>
  (s_cons (s_set (i := 3) sc__law_set.nd rfl (.inl rfl) (a_cty call_list_of (fun _ => ab_listR) (by rfl) T.z_list (by decide +kernel) (a_cons (a_pv (pv 0)) a_nil)))
  (s_cons (s_asg (a_pv (pv 2)) (g_sub (W := W0) (a_pv (pv 3)) (a_pv (pv 1))))
  (s_one (s_ret (a_cty call_tuple_of (fun _ => ab_tuple) (by rfl) T.z_tuple (by decide +kernel) (a_cons (a_pv (pv 3)) a_nil)))))))
theorem CA_law (T : Tx K mg kc) (f : Addr) (cdv : Value) (A : Around) (outer : List Env) (s : Shared) (H : Hp) (E : XK) (hr : Room 9 (A.deeper (envOfC "law" (defScope s_law) s.heap.objs.size f cdv))) :
    ASs (cxOf (L2.CX P w) P w K mg base ["script", "row", "spot", "line", "made", "count", "at", "bad", "rows", "k"] "law" (defScope s_law) f cdv A outer s H E) kc (fun cls d _ H => E cls d H) ((defBody s_law).drop 1) A_law := by
    have CA__law_numbers := CA__law_numbers (P := P) (w := w) (base := base) T
    have CA__law_case := CA__law_case (P := P) (w := w) (base := base) T
    have CA__law_made := CA__law_made (P := P) (w := w) (base := base) T
    have CA__law_made_fault := CA__law_made_fault (P := P) (w := w) (base := base) T
    have CA__law_take := CA__law_take (P := P) (w := w) (base := base) T
    have CA__law_set := CA__law_set (P := P) (w := w) (base := base) T
    exact (s_cons (s_set (i := 2) sc_law.nd rfl (.inl rfl) (a_ls (a_cons a_int a_nil)))
  (s_cons (s_set (i := 3) sc_law.nd rfl (.inl rfl) (a_call CA__law_case hr (by decide) (by rfl) (takes_of rfl rfl rfl rfl) (a_cons (a_pv (pv 1)) (a_cons (a_pv (pv 2)) a_nil))))
  (s_cons (s_set (i := 4) sc_law.nd rfl (.inl rfl) (a_call CA__law_made hr (by decide) (by rfl) (takes_of rfl rfl rfl rfl) (a_cons (a_pv (pv 3)) (a_cons a_int a_nil))))
  (s_cons (s_set (i := 5) sc_law.nd rfl (.inl rfl) (a_cb call_len_seq (fun _ => ab_len) (by rfl) T.z_len (by decide +kernel) (a_cons (a_ix (a_pv (pv 3)) a_int (fun _ _ => rfl)) a_nil)))
  (s_cons (s_if (t_cmp (op_neD (hu64 hr)) (fun _ => ao_ne) (a_call CA__law_made_fault hr (by decide) (by rfl) (takes_of rfl rfl rfl rfl) (a_cons a_int (a_cons (a_pv (pv 4)) (a_cons (a_ix (a_vl (a_cons a_int (a_cons (a_neg a_int) (a_cons a_bl (a_cons a_str (a_cons (a_tup a_nil) a_nil)))))) (a_call CA__law_take hr (by decide) (by rfl) (takes_of rfl rfl rfl rfl) (a_cons (a_pv (pv 1)) (a_cons (a_pv (pv 2)) (a_cons a_int a_nil)))) (fun _ _ => rfl)) (a_cons a_int (a_cons a_int a_nil)))))) (a_tup (a_cons a_str (a_cons a_int a_nil))) (nomark _))
    (s_one (s_ret a_bl))
    s_nil)
  (s_cons (s_if (t_cmp (op_neD (hu64 hr)) (fun _ => ao_ne) (a_call CA__law_made_fault hr (by decide) (by rfl) (takes_of rfl rfl rfl rfl) (a_cons a_int (a_cons (a_pv (pv 4)) (a_cons (a_ix (a_vl (a_cons (a_sl (a_ix (a_pv (pv 3)) a_int (fun _ _ => rfl)) (o_part a_int) o_no) (a_cons (a_op op_addA (fun _ => ao_add) (a_ix (a_pv (pv 3)) a_int (fun _ _ => rfl)) (a_tup (a_cons (a_tup (a_cons a_int (a_cons a_int a_nil))) a_nil))) (a_cons a_non (a_cons a_int (a_cons a_str a_nil)))))) (a_call CA__law_take hr (by decide) (by rfl) (takes_of rfl rfl rfl rfl) (a_cons (a_pv (pv 1)) (a_cons (a_pv (pv 2)) (a_cons a_int a_nil)))) (fun _ _ => rfl)) (a_cons a_int (a_cons a_int a_nil)))))) (a_tup (a_cons a_str (a_cons a_int a_nil))) (nomark _))
    (s_one (s_ret a_bl))
    s_nil)
  (s_cons (s_set (i := 6) sc_law.nd rfl (.inl rfl) (a_call CA__law_take hr (by decide) (by rfl) (takes_of rfl rfl rfl rfl) (a_cons (a_pv (pv 1)) (a_cons (a_pv (pv 2)) (a_cons (a_pv (pv 5)) a_nil)))))
  (s_cons (s_set (i := 7) sc_law.nd rfl (.inl rfl) (a_call CA__law_set hr (by decide) (by rfl) (takes_of rfl rfl rfl rfl) (a_cons (a_ix (a_pv (pv 3)) a_int (fun _ _ => rfl)) (a_cons (a_pv (pv 6)) (a_cons (a_ix (a_vl (a_cons (a_tup (a_cons a_int (a_cons a_int a_nil))) (a_cons (a_tup (a_cons a_int (a_cons a_int a_nil))) (a_cons a_non (a_cons (a_tup (a_cons a_int a_nil)) (a_cons a_str (a_cons (a_tup (a_cons a_bl (a_cons a_int a_nil))) a_nil))))))) (a_call CA__law_take hr (by decide) (by rfl) (takes_of rfl rfl rfl rfl) (a_cons (a_pv (pv 1)) (a_cons (a_pv (pv 2)) (a_cons a_int a_nil)))) (fun _ _ => rfl)) a_nil)))))
  (s_cons (s_if (t_w (w_or (t_cmp (op_neD (hu64 hr)) (fun _ => ao_ne) (a_call CA__law_made_fault hr (by decide) (by rfl) (takes_of rfl rfl rfl rfl) (a_cons a_int (a_cons (a_pv (pv 4)) (a_cons (a_pv (pv 7)) (a_cons a_int (a_cons a_int a_nil)))))) (a_tup (a_cons a_str (a_cons (a_pv (pv 6)) a_nil))) (nomark _)) (w_or1 (t_cmp (op_neD (hu64 hr)) (fun _ => ao_ne) (a_call CA__law_made_fault hr (by decide) (by rfl) (takes_of rfl rfl rfl rfl) (a_cons a_int (a_cons (a_pv (pv 7)) (a_cons (a_ix (a_pv (pv 3)) a_int (fun _ _ => rfl)) (a_cons (a_ix (a_pv (pv 3)) a_int (fun _ _ => rfl)) (a_cons a_int a_nil)))))) (a_tup (a_cons a_str (a_cons (a_pv (pv 6)) a_nil))) (nomark _)))))
    (s_one (s_ret a_bl))
    s_nil)
  (s_cons (s_set (i := 8) sc_law.nd rfl (.inl rfl) (a_vl (a_cons (a_tup a_nil) (a_cons a_non (a_cons a_int (a_cons a_str (a_cons (a_tup (a_cons (a_cb call_len_seq (fun _ => ab_len) (by rfl) T.z_len (by decide +kernel) (a_cons (a_ix (a_pv (pv 3)) a_int (fun _ _ => rfl)) a_nil)) a_nil)) (a_cons (a_tup (a_cons a_int (a_cons (a_neg a_int) a_nil))) (a_cons (a_tup (a_cons a_bl a_nil)) (a_cons (a_cty call_tuple_of (fun _ => ab_tuple) (by rfl) T.z_tuple (by decide +kernel) (a_cons (a_lc (own := [("k", 9)]) (by rfl) sc_law.nd (i_rg1 (es := []) (wi := fun _ _ _ => True) (ta := fun _ _ _ => True) (pi_range1 (by rfl) T.z_range (a_cons a_int a_nil))) (blkOk_by (own := [("k", 9)]) (N := ["script", "row", "spot", "line", "made", "count", "at", "bad", "rows", "k"]) (sc := defScope s_law) (by decide +kernel)) (fun _ _ _ _ _ => (gc_nam (pg_name (i := 9) sc_law.nd rfl (Or.inl rfl)) (by decide))) (fun _ _ _ _ _ => if_nil) (fun _ _ _ _ _ => a_int)) a_nil)) a_nil))))))))))
  (s_cons (s_if (t_cmp (op_neD (hu64 hr)) (fun _ => ao_ne) (a_call CA__law_made_fault hr (by decide) (by rfl) (takes_of rfl rfl rfl rfl) (a_cons a_int (a_cons (a_pv (pv 4)) (a_cons (a_ix (a_pv (pv 8)) (a_call CA__law_take hr (by decide) (by rfl) (takes_of rfl rfl rfl rfl) (a_cons (a_pv (pv 1)) (a_cons (a_pv (pv 2)) (a_cons a_int a_nil)))) (fun _ _ => rfl)) (a_cons a_int (a_cons a_int a_nil)))))) (a_tup (a_cons a_str (a_cons a_int a_nil))) (nomark _))
    (s_one (s_ret a_bl))
    s_nil)
  (s_cons (s_if (t_cmp (op_neD (hu64 hr)) (fun _ => ao_ne) (a_call CA__law_made_fault hr (by decide) (by rfl) (takes_of rfl rfl rfl rfl) (a_cons a_int (a_cons (a_ix (a_pv (pv 3)) a_int (fun _ _ => rfl)) (a_cons (a_op op_addA (fun _ => ao_add) (a_ix (a_pv (pv 3)) a_int (fun _ _ => rfl)) (a_tup (a_cons (a_tup (a_cons a_int (a_cons a_int a_nil))) a_nil))) (a_cons a_non (a_cons a_int a_nil)))))) (a_tup (a_cons a_str (a_cons (a_cb call_len_seq (fun _ => ab_len) (by rfl) T.z_len (by decide +kernel) (a_cons (a_ix (a_pv (pv 3)) a_int (fun _ _ => rfl)) a_nil)) a_nil))) (nomark _))
    (s_one (s_ret a_bl))
    s_nil)
  (s_cons (s_if (t_cmp (op_neD (hu64 hr)) (fun _ => ao_ne) (a_call CA__law_made_fault hr (by decide) (by rfl) (takes_of rfl rfl rfl rfl) (a_cons a_int (a_cons (a_ix (a_pv (pv 3)) a_int (fun _ _ => rfl)) (a_cons (a_ix (a_pv (pv 3)) a_int (fun _ _ => rfl)) (a_cons (a_op op_addA (fun _ => ao_add) (a_ix (a_pv (pv 3)) a_int (fun _ _ => rfl)) (a_tup (a_cons (a_tup (a_cons (a_pv (pv 5)) a_nil)) a_nil))) (a_cons a_int a_nil)))))) (a_tup (a_cons a_str (a_cons (a_cb call_len_seq (fun _ => ab_len) (by rfl) T.z_len (by decide +kernel) (a_cons (a_ix (a_pv (pv 3)) a_int (fun _ _ => rfl)) a_nil)) a_nil))) (nomark _))
    (s_one (s_ret a_bl))
    s_nil)
  (s_one (s_ret (a_and (a_cmp (op_eqD (hu64 hr)) (fun _ => ao_eq) (a_call CA__law_made_fault hr (by decide) (by rfl) (takes_of rfl rfl rfl rfl) (a_cons a_int (a_cons (a_ix (a_pv (pv 3)) a_int (fun _ _ => rfl)) (a_cons (a_ix (a_pv (pv 3)) a_int (fun _ _ => rfl)) (a_cons (a_ix (a_pv (pv 3)) a_int (fun _ _ => rfl)) (a_cons a_int a_nil)))))) (a_tup (a_cons a_str (a_cons a_int a_nil))) (nomark _)) (a_one (a_cmp op_isN (fun _ => ao_isN) (a_call CA__law_made_fault hr (by decide) (by rfl) (takes_of rfl rfl rfl rfl) (a_cons a_int (a_cons (a_ix (a_pv (pv 3)) a_int (fun _ _ => rfl)) (a_cons (a_ix (a_pv (pv 3)) a_int (fun _ _ => rfl)) (a_cons (a_ix (a_pv (pv 3)) a_int (fun _ _ => rfl)) (a_cons a_non a_nil)))))) a_non (nomark _)))))))))))))))))))
theorem fn_law (T : Tx K mg kc) {f : Addr} {fd : FuncData} (F : Fun K "law" "law" s_law f fd) (hA : ∀ ms : List Int, 0 < ms.length → ∃ h', A_law (δ_law ms) [] = .rt (.bl true) h') : FnOk P w K mg base (L2.CX P w) 10 f fd ["script"] (spLaw K) := by
  have c := cx_numbers (P := P) (w := w) (base := base) T
  refine F.okX (k := 9) (N := ["script", "row", "spot", "line", "made", "count", "at", "bad", "rows", "k"]) sc_law (fun vs H Q E h => ?_) (fun cdv A outer s H vs Q E hr h => ?_)
  · obtain ⟨a, ns, rfl, _⟩ := h
    rfl
  obtain ⟨a, ns, rfl, hS, hl, q⟩ := h
  refine ⟨_, pss_cons (ps_set (i := 1) sc_law.nd rfl (.inl rfl) (pe_cx c hr (by decide) (by rfl) (takes_of rfl rfl rfl rfl) (pa_cons (pv 0) pa_nil))) (CA_law T f cdv A outer s H E hr), ?_⟩
  refine ⟨_, rfl, a, ns, rfl, hS, hl, fun p H1 s1 np hR => ?_⟩
  obtain ⟨ms, e, h0, h1⟩ := hR
  obtain ⟨h', eA⟩ := hA ms h0
  refine ⟨[], [], δ_law ms, [], rel_nil rfl, ?_, ?_⟩
  · exact slo_row rfl (by decide) e h1
  · rw [eA]
    intro ι' v H' _ _ r
    rw [r.bl]
    exact q H'
end
end Mr
namespace Mr
open PySem PySem.Spec PyProof.Rows L2 Aq
set_option maxHeartbeats 4000000 in
theorem all_mk {P : Program} {w : World} {K : PySem.W.Frag} {h : Heap} {mg : Str → Option Value} {fa : Addr} (X : K.In h) (G : h.Ns mainGlobals mg) (hfa : mg "law" = some (.ref fa)) (hA : ∀ ms : List Int, 0 < ms.length → ∃ h', A_law (δ_law ms) [] = .rt (.bl true) h')
    {t_MOST_TIME : _}
    {t_MOST_TASKS : _}
    {t_MOST_PAIRS : _}
    {t_MOST_MODELS : _}
    {t_MOST_ARCS : _}
    {t_MOST_STATES : _}
    {t_MOST_SLIPS : _}
    {t_MOST_REPEATED : _}
    {f1 : Addr} {od1 an1 : Option Addr} {sl1 : Array (Option Value)} {oc1 dc1 pm1 cd1 ct1 kV1 : Value}
    {f2 : Addr} {od2 an2 : Option Addr} {sl2 : Array (Option Value)} {oc2 dc2 pm2 cd2 ct2 kV2 : Value}
    {f3 : Addr} {od3 an3 : Option Addr} {sl3 : Array (Option Value)} {oc3 dc3 pm3 cd3 ct3 kV3 : Value}
    {f4 : Addr} {od4 an4 : Option Addr} {sl4 : Array (Option Value)} {oc4 dc4 pm4 cd4 ct4 kV4 : Value}
    {f5 : Addr} {od5 an5 : Option Addr} {sl5 : Array (Option Value)} {oc5 dc5 pm5 cd5 ct5 kV5 : Value}
    {f6 : Addr} {od6 an6 : Option Addr} {sl6 : Array (Option Value)} {oc6 dc6 pm6 cd6 ct6 kV6 : Value}
    {f7 : Addr} {od7 an7 : Option Addr} {sl7 : Array (Option Value)} {oc7 dc7 pm7 cd7 ct7 kV7 : Value}
    {f8 : Addr} {od8 an8 : Option Addr} {sl8 : Array (Option Value)} {oc8 dc8 pm8 cd8 ct8 kV8 : Value}
    {f9 : Addr} {od9 an9 : Option Addr} {sl9 : Array (Option Value)} {oc9 dc9 pm9 cd9 ct9 kV9 : Value}
    {f10 : Addr} {od10 an10 : Option Addr} {sl10 : Array (Option Value)} {oc10 dc10 pm10 cd10 ct10 kV10 : Value}
    {f11 : Addr} {od11 an11 : Option Addr} {sl11 : Array (Option Value)} {oc11 dc11 pm11 cd11 ct11 kV11 : Value}
    {f12 : Addr} {od12 an12 : Option Addr} {sl12 : Array (Option Value)} {oc12 dc12 pm12 cd12 ct12 kV12 : Value}
    {f13 : Addr} {od13 an13 : Option Addr} {sl13 : Array (Option Value)} {oc13 dc13 pm13 cd13 ct13 kV13 : Value}
    {f14 : Addr} {od14 an14 : Option Addr} {sl14 : Array (Option Value)} {oc14 dc14 pm14 cd14 ct14 kV14 : Value}
    {f15 : Addr} {od15 an15 : Option Addr} {sl15 : Array (Option Value)} {oc15 dc15 pm15 cd15 ct15 kV15 : Value}
    {f16 : Addr} {od16 an16 : Option Addr} {sl16 : Array (Option Value)} {oc16 dc16 pm16 cd16 ct16 kV16 : Value}
    {f17 : Addr} {od17 an17 : Option Addr} {sl17 : Array (Option Value)} {oc17 dc17 pm17 cd17 ct17 kV17 : Value}
    {f18 : Addr} {od18 an18 : Option Addr} {sl18 : Array (Option Value)} {oc18 dc18 pm18 cd18 ct18 kV18 : Value}
    {f19 : Addr} {od19 an19 : Option Addr} {sl19 : Array (Option Value)} {oc19 dc19 pm19 cd19 ct19 kV19 : Value}
    {f20 : Addr} {od20 an20 : Option Addr} {sl20 : Array (Option Value)} {oc20 dc20 pm20 cd20 ct20 kV20 : Value}
    {f21 : Addr} {od21 an21 : Option Addr} {sl21 : Array (Option Value)} {oc21 dc21 pm21 cd21 ct21 kV21 : Value}
    {f22 : Addr} {od22 an22 : Option Addr} {sl22 : Array (Option Value)} {oc22 dc22 pm22 cd22 ct22 kV22 : Value}
    {f23 : Addr} {od23 an23 : Option Addr} {sl23 : Array (Option Value)} {oc23 dc23 pm23 cd23 ct23 kV23 : Value}
    {f24 : Addr} {od24 an24 : Option Addr} {sl24 : Array (Option Value)} {oc24 dc24 pm24 cd24 ct24 kV24 : Value}
    {f25 : Addr} {od25 an25 : Option Addr} {sl25 : Array (Option Value)} {oc25 dc25 pm25 cd25 ct25 kV25 : Value}
    {f26 : Addr} {od26 an26 : Option Addr} {sl26 : Array (Option Value)} {oc26 dc26 pm26 cd26 ct26 kV26 : Value}
    {f27 : Addr} {od27 an27 : Option Addr} {sl27 : Array (Option Value)} {oc27 dc27 pm27 cd27 ct27 kV27 : Value}
    {f28 : Addr} {od28 an28 : Option Addr} {sl28 : Array (Option Value)} {oc28 dc28 pm28 cd28 ct28 kV28 : Value}
    {f29 : Addr} {od29 an29 : Option Addr} {sl29 : Array (Option Value)} {oc29 dc29 pm29 cd29 ct29 kV29 : Value}
    {f30 : Addr} {od30 an30 : Option Addr} {sl30 : Array (Option Value)} {oc30 dc30 pm30 cd30 ct30 kV30 : Value}
    {f31 : Addr} {od31 an31 : Option Addr} {sl31 : Array (Option Value)} {oc31 dc31 pm31 cd31 ct31 kV31 : Value}
    {f32 : Addr} {od32 an32 : Option Addr} {sl32 : Array (Option Value)} {oc32 dc32 pm32 cd32 ct32 kV32 : Value}
    {f33 : Addr} {od33 an33 : Option Addr} {sl33 : Array (Option Value)} {oc33 dc33 pm33 cd33 ct33 kV33 : Value}
    {f34 : Addr} {od34 an34 : Option Addr} {sl34 : Array (Option Value)} {oc34 dc34 pm34 cd34 ct34 kV34 : Value}
    {f35 : Addr} {od35 an35 : Option Addr} {sl35 : Array (Option Value)} {oc35 dc35 pm35 cd35 ct35 kV35 : Value}
    {XBadValue : Addr} {fXBadValue : Addr} {odXBadValue anXBadValue : Option Addr} {slXBadValue : Array (Option Value)} {ocXBadValue dcXBadValue pmXBadValue cdXBadValue ctXBadValue kVXBadValue : Value} {p1XBadValue p2XBadValue q1XBadValue q2XBadValue q3XBadValue q4XBadValue : Pos}
    {XTooMany : Addr} {fXTooMany : Addr} {odXTooMany anXTooMany : Option Addr} {slXTooMany : Array (Option Value)} {ocXTooMany dcXTooMany pmXTooMany cdXTooMany ctXTooMany kVXTooMany : Value} {p1XTooMany p2XTooMany q1XTooMany q2XTooMany q3XTooMany q4XTooMany : Pos}
    {XBadTask : Addr} {fXBadTask : Addr} {odXBadTask anXBadTask : Option Addr} {slXBadTask : Array (Option Value)} {ocXBadTask dcXBadTask pmXBadTask cdXBadTask ctXBadTask kVXBadTask : Value} {p1XBadTask p2XBadTask q1XBadTask q2XBadTask q3XBadTask q4XBadTask : Pos}
    {XBadPair : Addr} {fXBadPair : Addr} {odXBadPair anXBadPair : Option Addr} {slXBadPair : Array (Option Value)} {ocXBadPair dcXBadPair pmXBadPair cdXBadPair ctXBadPair kVXBadPair : Value} {p1XBadPair p2XBadPair q1XBadPair q2XBadPair q3XBadPair q4XBadPair : Pos}
    {XBadModel : Addr} {fXBadModel : Addr} {odXBadModel anXBadModel : Option Addr} {slXBadModel : Array (Option Value)} {ocXBadModel dcXBadModel pmXBadModel cdXBadModel ctXBadModel kVXBadModel : Value} {p1XBadModel p2XBadModel q1XBadModel q2XBadModel q3XBadModel q4XBadModel : Pos}
    {XBadState : Addr} {fXBadState : Addr} {odXBadState anXBadState : Option Addr} {slXBadState : Array (Option Value)} {ocXBadState dcXBadState pmXBadState cdXBadState ctXBadState kVXBadState : Value} {p1XBadState p2XBadState q1XBadState q2XBadState q3XBadState q4XBadState : Pos}
    {C : Addr}
    {fPtasks : Addr} {odPtasks anPtasks : Option Addr} {slPtasks : Array (Option Value)} {ocPtasks dcPtasks pmPtasks cdPtasks ctPtasks kVPtasks : Value} {pPtasks : Addr} {rPtasks : List Value}
    {fPorder : Addr} {odPorder anPorder : Option Addr} {slPorder : Array (Option Value)} {ocPorder dcPorder pmPorder cdPorder ctPorder kVPorder : Value} {pPorder : Addr} {rPorder : List Value}
    {fPmodels : Addr} {odPmodels anPmodels : Option Addr} {slPmodels : Array (Option Value)} {ocPmodels dcPmodels pmPmodels cdPmodels ctPmodels kVPmodels : Value} {pPmodels : Addr} {rPmodels : List Value}
    {fPstates : Addr} {odPstates anPstates : Option Addr} {slPstates : Array (Option Value)} {ocPstates dcPstates pmPstates cdPstates ctPstates kVPstates : Value} {pPstates : Addr} {rPstates : List Value}
    {fPstart : Addr} {odPstart anPstart : Option Addr} {slPstart : Array (Option Value)} {ocPstart dcPstart pmPstart cdPstart ctPstart kVPstart : Value} {pPstart : Addr} {rPstart : List Value}
    {fPslips : Addr} {odPslips anPslips : Option Addr} {slPslips : Array (Option Value)} {ocPslips dcPslips pmPslips cdPslips ctPslips kVPslips : Value} {pPslips : Addr} {rPslips : List Value}
    {fI : Addr} {odI anI : Option Addr} {slI : Array (Option Value)} {ocI dcI pmI cdI ctI : Value} {DI : Addr} {tI : _}
    {fKfree_line : Addr} {odKfree_line anKfree_line : Option Addr} {slKfree_line : Array (Option Value)} {ocKfree_line dcKfree_line pmKfree_line cdKfree_line ctKfree_line : Value} {DKfree_line : Addr} {tKfree_line : _}
    {fL : Addr} {odL anL : Option Addr} {slL : Array (Option Value)} {ocL dcL pmL cdL ctL kVL : Value}
    (z_range : PySem.W.nsIn K mainGlobals "range" = some none)
    (z_int : PySem.W.nsIn K mainGlobals "int" = some none)
    (z_len : PySem.W.nsIn K mainGlobals "len" = some none)
    (z_min : PySem.W.nsIn K mainGlobals "min" = some none)
    (z_list : PySem.W.nsIn K mainGlobals "list" = some none)
    (z_max : PySem.W.nsIn K mainGlobals "max" = some none)
    (z_tuple : PySem.W.nsIn K mainGlobals "tuple" = some none)
    (z_isinstance : PySem.W.nsIn K mainGlobals "isinstance" = some none)
    (z_bool : PySem.W.nsIn K mainGlobals "bool" = some none)
    (z_enumerate : PySem.W.nsIn K mainGlobals "enumerate" = some none)
    (z_all : PySem.W.nsIn K mainGlobals "all" = some none)
    (m_MOST_TIME : PySem.W.nsIn K mainGlobals "MOST_TIME" = some (some (.int 10000 t_MOST_TIME)))
    (m_MOST_TASKS : PySem.W.nsIn K mainGlobals "MOST_TASKS" = some (some (.int 24 t_MOST_TASKS)))
    (m_MOST_PAIRS : PySem.W.nsIn K mainGlobals "MOST_PAIRS" = some (some (.int 200 t_MOST_PAIRS)))
    (m_MOST_MODELS : PySem.W.nsIn K mainGlobals "MOST_MODELS" = some (some (.int 8 t_MOST_MODELS)))
    (m_MOST_ARCS : PySem.W.nsIn K mainGlobals "MOST_ARCS" = some (some (.int 40 t_MOST_ARCS)))
    (m_MOST_STATES : PySem.W.nsIn K mainGlobals "MOST_STATES" = some (some (.int 60 t_MOST_STATES)))
    (m_MOST_SLIPS : PySem.W.nsIn K mainGlobals "MOST_SLIPS" = some (some (.int 8 t_MOST_SLIPS)))
    (m_MOST_REPEATED : PySem.W.nsIn K mainGlobals "MOST_REPEATED" = some (some (.int 40 t_MOST_REPEATED)))
    (a1 : PySem.W.nsIn K mainGlobals "_law_numbers" = some (some (.ref f1)))
    (l1 : K.lookup f1 = some ⟨oc1, od1, .func (PySem.W.fnOf "_law_numbers" "_law_numbers" (defArgs s__law_numbers) (defBody s__law_numbers) (defScope s__law_numbers) .none kV1 dc1 pm1 an1 cd1 ct1), sl1⟩)
    (c1 : PySem.W.codeIn K cd1 "_law_numbers" = true)
    (k1 : PySem.W.keepIn K (.ref f1) = true)
    (a2 : PySem.W.nsIn K mainGlobals "_law_draw" = some (some (.ref f2)))
    (l2 : K.lookup f2 = some ⟨oc2, od2, .func (PySem.W.fnOf "_law_draw" "_law_draw" (defArgs s__law_draw) (defBody s__law_draw) (defScope s__law_draw) .none kV2 dc2 pm2 an2 cd2 ct2), sl2⟩)
    (c2 : PySem.W.codeIn K cd2 "_law_draw" = true)
    (k2 : PySem.W.keepIn K (.ref f2) = true)
    (a3 : PySem.W.nsIn K mainGlobals "_law_take" = some (some (.ref f3)))
    (l3 : K.lookup f3 = some ⟨oc3, od3, .func (PySem.W.fnOf "_law_take" "_law_take" (defArgs s__law_take) (defBody s__law_take) (defScope s__law_take) .none kV3 dc3 pm3 an3 cd3 ct3), sl3⟩)
    (c3 : PySem.W.codeIn K cd3 "_law_take" = true)
    (k3 : PySem.W.keepIn K (.ref f3) = true)
    (a4 : PySem.W.nsIn K mainGlobals "_law_wide" = some (some (.ref f4)))
    (l4 : K.lookup f4 = some ⟨oc4, od4, .func (PySem.W.fnOf "_law_wide" "_law_wide" (defArgs s__law_wide) (defBody s__law_wide) (defScope s__law_wide) .none kV4 dc4 pm4 an4 cd4 ct4), sl4⟩)
    (c4 : PySem.W.codeIn K cd4 "_law_wide" = true)
    (k4 : PySem.W.keepIn K (.ref f4) = true)
    (a5 : PySem.W.nsIn K mainGlobals "_law_time" = some (some (.ref f5)))
    (l5 : K.lookup f5 = some ⟨oc5, od5, .func (PySem.W.fnOf "_law_time" "_law_time" (defArgs s__law_time) (defBody s__law_time) (defScope s__law_time) .none kV5 dc5 pm5 an5 cd5 ct5), sl5⟩)
    (c5 : PySem.W.codeIn K cd5 "_law_time" = true)
    (k5 : PySem.W.keepIn K (.ref f5) = true)
    (a6 : PySem.W.nsIn K mainGlobals "_law_task" = some (some (.ref f6)))
    (l6 : K.lookup f6 = some ⟨oc6, od6, .func (PySem.W.fnOf "_law_task" "_law_task" (defArgs s__law_task) (defBody s__law_task) (defScope s__law_task) .none kV6 dc6 pm6 an6 cd6 ct6), sl6⟩)
    (c6 : PySem.W.codeIn K cd6 "_law_task" = true)
    (k6 : PySem.W.keepIn K (.ref f6) = true)
    (a7 : PySem.W.nsIn K mainGlobals "_law_mixed" = some (some (.ref f7)))
    (l7 : K.lookup f7 = some ⟨oc7, od7, .func (PySem.W.fnOf "_law_mixed" "_law_mixed" (defArgs s__law_mixed) (defBody s__law_mixed) (defScope s__law_mixed) .none kV7 dc7 pm7 an7 cd7 ct7), sl7⟩)
    (c7 : PySem.W.codeIn K cd7 "_law_mixed" = true)
    (k7 : PySem.W.keepIn K (.ref f7) = true)
    (a8 : PySem.W.nsIn K mainGlobals "_law_pairs_of" = some (some (.ref f8)))
    (l8 : K.lookup f8 = some ⟨oc8, od8, .func (PySem.W.fnOf "_law_pairs_of" "_law_pairs_of" (defArgs s__law_pairs_of) (defBody s__law_pairs_of) (defScope s__law_pairs_of) .none kV8 dc8 pm8 an8 cd8 ct8), sl8⟩)
    (c8 : PySem.W.codeIn K cd8 "_law_pairs_of" = true)
    (k8 : PySem.W.keepIn K (.ref f8) = true)
    (a9 : PySem.W.nsIn K mainGlobals "_law_model" = some (some (.ref f9)))
    (l9 : K.lookup f9 = some ⟨oc9, od9, .func (PySem.W.fnOf "_law_model" "_law_model" (defArgs s__law_model) (defBody s__law_model) (defScope s__law_model) .none kV9 dc9 pm9 an9 cd9 ct9), sl9⟩)
    (c9 : PySem.W.codeIn K cd9 "_law_model" = true)
    (k9 : PySem.W.keepIn K (.ref f9) = true)
    (a10 : PySem.W.nsIn K mainGlobals "_law_states" = some (some (.ref f10)))
    (l10 : K.lookup f10 = some ⟨oc10, od10, .func (PySem.W.fnOf "_law_states" "_law_states" (defArgs s__law_states) (defBody s__law_states) (defScope s__law_states) .none kV10 dc10 pm10 an10 cd10 ct10), sl10⟩)
    (c10 : PySem.W.codeIn K cd10 "_law_states" = true)
    (k10 : PySem.W.keepIn K (.ref f10) = true)
    (a11 : PySem.W.nsIn K mainGlobals "_law_line" = some (some (.ref f11)))
    (l11 : K.lookup f11 = some ⟨oc11, od11, .func (PySem.W.fnOf "_law_line" "_law_line" (defArgs s__law_line) (defBody s__law_line) (defScope s__law_line) .none kV11 dc11 pm11 an11 cd11 ct11), sl11⟩)
    (c11 : PySem.W.codeIn K cd11 "_law_line" = true)
    (k11 : PySem.W.keepIn K (.ref f11) = true)
    (a12 : PySem.W.nsIn K mainGlobals "_law_case" = some (some (.ref f12)))
    (l12 : K.lookup f12 = some ⟨oc12, od12, .func (PySem.W.fnOf "_law_case" "_law_case" (defArgs s__law_case) (defBody s__law_case) (defScope s__law_case) .none kV12 dc12 pm12 an12 cd12 ct12), sl12⟩)
    (c12 : PySem.W.codeIn K cd12 "_law_case" = true)
    (k12 : PySem.W.keepIn K (.ref f12) = true)
    (a13 : PySem.W.nsIn K mainGlobals "_law_loose" = some (some (.ref f13)))
    (l13 : K.lookup f13 = some ⟨oc13, od13, .func (PySem.W.fnOf "_law_loose" "_law_loose" (defArgs s__law_loose) (defBody s__law_loose) (defScope s__law_loose) .none kV13 dc13 pm13 an13 cd13 ct13), sl13⟩)
    (c13 : PySem.W.codeIn K cd13 "_law_loose" = true)
    (k13 : PySem.W.keepIn K (.ref f13) = true)
    (a14 : PySem.W.nsIn K mainGlobals "is_sequence" = some (some (.ref f14)))
    (l14 : K.lookup f14 = some ⟨oc14, od14, .func (PySem.W.fnOf "is_sequence" "is_sequence" (defArgs s_is_sequence) (defBody s_is_sequence) (defScope s_is_sequence) .none kV14 dc14 pm14 an14 cd14 ct14), sl14⟩)
    (c14 : PySem.W.codeIn K cd14 "is_sequence" = true)
    (k14 : PySem.W.keepIn K (.ref f14) = true)
    (a15 : PySem.W.nsIn K mainGlobals "has_length" = some (some (.ref f15)))
    (l15 : K.lookup f15 = some ⟨oc15, od15, .func (PySem.W.fnOf "has_length" "has_length" (defArgs s_has_length) (defBody s_has_length) (defScope s_has_length) .none kV15 dc15 pm15 an15 cd15 ct15), sl15⟩)
    (c15 : PySem.W.codeIn K cd15 "has_length" = true)
    (k15 : PySem.W.keepIn K (.ref f15) = true)
    (a16 : PySem.W.nsIn K mainGlobals "is_integer" = some (some (.ref f16)))
    (l16 : K.lookup f16 = some ⟨oc16, od16, .func (PySem.W.fnOf "is_integer" "is_integer" (defArgs s_is_integer) (defBody s_is_integer) (defScope s_is_integer) .none kV16 dc16 pm16 an16 cd16 ct16), sl16⟩)
    (c16 : PySem.W.codeIn K cd16 "is_integer" = true)
    (k16 : PySem.W.keepIn K (.ref f16) = true)
    (a17 : PySem.W.nsIn K mainGlobals "is_within" = some (some (.ref f17)))
    (l17 : K.lookup f17 = some ⟨oc17, od17, .func (PySem.W.fnOf "is_within" "is_within" (defArgs s_is_within) (defBody s_is_within) (defScope s_is_within) .none kV17 dc17 pm17 an17 cd17 ct17), sl17⟩)
    (c17 : PySem.W.codeIn K cd17 "is_within" = true)
    (k17 : PySem.W.keepIn K (.ref f17) = true)
    (a18 : PySem.W.nsIn K mainGlobals "is_task" = some (some (.ref f18)))
    (l18 : K.lookup f18 = some ⟨oc18, od18, .func (PySem.W.fnOf "is_task" "is_task" (defArgs s_is_task) (defBody s_is_task) (defScope s_is_task) .none kV18 dc18 pm18 an18 cd18 ct18), sl18⟩)
    (c18 : PySem.W.codeIn K cd18 "is_task" = true)
    (k18 : PySem.W.keepIn K (.ref f18) = true)
    (a19 : PySem.W.nsIn K mainGlobals "checked_tasks" = some (some (.ref f19)))
    (l19 : K.lookup f19 = some ⟨oc19, od19, .func (PySem.W.fnOf "checked_tasks" "checked_tasks" (defArgs s_checked_tasks) (defBody s_checked_tasks) (defScope s_checked_tasks) .none kV19 dc19 pm19 an19 cd19 ct19), sl19⟩)
    (c19 : PySem.W.codeIn K cd19 "checked_tasks" = true)
    (k19 : PySem.W.keepIn K (.ref f19) = true)
    (a20 : PySem.W.nsIn K mainGlobals "are_within" = some (some (.ref f20)))
    (l20 : K.lookup f20 = some ⟨oc20, od20, .func (PySem.W.fnOf "are_within" "are_within" (defArgs s_are_within) (defBody s_are_within) (defScope s_are_within) .none kV20 dc20 pm20 an20 cd20 ct20), sl20⟩)
    (c20 : PySem.W.codeIn K cd20 "are_within" = true)
    (k20 : PySem.W.keepIn K (.ref f20) = true)
    (a21 : PySem.W.nsIn K mainGlobals "is_pair" = some (some (.ref f21)))
    (l21 : K.lookup f21 = some ⟨oc21, od21, .func (PySem.W.fnOf "is_pair" "is_pair" (defArgs s_is_pair) (defBody s_is_pair) (defScope s_is_pair) .none kV21 dc21 pm21 an21 cd21 ct21), sl21⟩)
    (c21 : PySem.W.codeIn K cd21 "is_pair" = true)
    (k21 : PySem.W.keepIn K (.ref f21) = true)
    (a22 : PySem.W.nsIn K mainGlobals "put_behind" = some (some (.ref f22)))
    (l22 : K.lookup f22 = some ⟨oc22, od22, .func (PySem.W.fnOf "put_behind" "put_behind" (defArgs s_put_behind) (defBody s_put_behind) (defScope s_put_behind) .none kV22 dc22 pm22 an22 cd22 ct22), sl22⟩)
    (c22 : PySem.W.codeIn K cd22 "put_behind" = true)
    (k22 : PySem.W.keepIn K (.ref f22) = true)
    (a23 : PySem.W.nsIn K mainGlobals "checked_order" = some (some (.ref f23)))
    (l23 : K.lookup f23 = some ⟨oc23, od23, .func (PySem.W.fnOf "checked_order" "checked_order" (defArgs s_checked_order) (defBody s_checked_order) (defScope s_checked_order) .none kV23 dc23 pm23 an23 cd23 ct23), sl23⟩)
    (c23 : PySem.W.codeIn K cd23 "checked_order" = true)
    (k23 : PySem.W.keepIn K (.ref f23) = true)
    (a24 : PySem.W.nsIn K mainGlobals "is_ascending" = some (some (.ref f24)))
    (l24 : K.lookup f24 = some ⟨oc24, od24, .func (PySem.W.fnOf "is_ascending" "is_ascending" (defArgs s_is_ascending) (defBody s_is_ascending) (defScope s_is_ascending) .none kV24 dc24 pm24 an24 cd24 ct24), sl24⟩)
    (c24 : PySem.W.codeIn K cd24 "is_ascending" = true)
    (k24 : PySem.W.keepIn K (.ref f24) = true)
    (a25 : PySem.W.nsIn K mainGlobals "checked_models" = some (some (.ref f25)))
    (l25 : K.lookup f25 = some ⟨oc25, od25, .func (PySem.W.fnOf "checked_models" "checked_models" (defArgs s_checked_models) (defBody s_checked_models) (defScope s_checked_models) .none kV25 dc25 pm25 an25 cd25 ct25), sl25⟩)
    (c25 : PySem.W.codeIn K cd25 "checked_models" = true)
    (k25 : PySem.W.keepIn K (.ref f25) = true)
    (a26 : PySem.W.nsIn K mainGlobals "is_arc" = some (some (.ref f26)))
    (l26 : K.lookup f26 = some ⟨oc26, od26, .func (PySem.W.fnOf "is_arc" "is_arc" (defArgs s_is_arc) (defBody s_is_arc) (defScope s_is_arc) .none kV26 dc26 pm26 an26 cd26 ct26), sl26⟩)
    (c26 : PySem.W.codeIn K cd26 "is_arc" = true)
    (k26 : PySem.W.keepIn K (.ref f26) = true)
    (a27 : PySem.W.nsIn K mainGlobals "is_state" = some (some (.ref f27)))
    (l27 : K.lookup f27 = some ⟨oc27, od27, .func (PySem.W.fnOf "is_state" "is_state" (defArgs s_is_state) (defBody s_is_state) (defScope s_is_state) .none kV27 dc27 pm27 an27 cd27 ct27), sl27⟩)
    (c27 : PySem.W.codeIn K cd27 "is_state" = true)
    (k27 : PySem.W.keepIn K (.ref f27) = true)
    (a28 : PySem.W.nsIn K mainGlobals "checked_states" = some (some (.ref f28)))
    (l28 : K.lookup f28 = some ⟨oc28, od28, .func (PySem.W.fnOf "checked_states" "checked_states" (defArgs s_checked_states) (defBody s_checked_states) (defScope s_checked_states) .none kV28 dc28 pm28 an28 cd28 ct28), sl28⟩)
    (c28 : PySem.W.codeIn K cd28 "checked_states" = true)
    (k28 : PySem.W.keepIn K (.ref f28) = true)
    (a29 : PySem.W.nsIn K mainGlobals "is_slips" = some (some (.ref f29)))
    (l29 : K.lookup f29 = some ⟨oc29, od29, .func (PySem.W.fnOf "is_slips" "is_slips" (defArgs s_is_slips) (defBody s_is_slips) (defScope s_is_slips) .none kV29 dc29 pm29 an29 cd29 ct29), sl29⟩)
    (c29 : PySem.W.codeIn K cd29 "is_slips" = true)
    (k29 : PySem.W.keepIn K (.ref f29) = true)
    (a30 : PySem.W.nsIn K mainGlobals "_law_made" = some (some (.ref f30)))
    (l30 : K.lookup f30 = some ⟨oc30, od30, .func (PySem.W.fnOf "_law_made" "_law_made" (defArgs s__law_made) (defBody s__law_made) (defScope s__law_made) .none kV30 dc30 pm30 an30 cd30 ct30), sl30⟩)
    (c30 : PySem.W.codeIn K cd30 "_law_made" = true)
    (k30 : PySem.W.keepIn K (.ref f30) = true)
    (a31 : PySem.W.nsIn K mainGlobals "with_slips" = some (some (.ref f31)))
    (l31 : K.lookup f31 = some ⟨oc31, od31, .func (PySem.W.fnOf "with_slips" "with_slips" (defArgs s_with_slips) (defBody s_with_slips) (defScope s_with_slips) .none kV31 dc31 pm31 an31 cd31 ct31), sl31⟩)
    (c31 : PySem.W.codeIn K cd31 "with_slips" = true)
    (k31 : PySem.W.keepIn K (.ref f31) = true)
    (a32 : PySem.W.nsIn K mainGlobals "with_times" = some (some (.ref f32)))
    (l32 : K.lookup f32 = some ⟨oc32, od32, .func (PySem.W.fnOf "with_times" "with_times" (defArgs s_with_times) (defBody s_with_times) (defScope s_with_times) .none kV32 dc32 pm32 an32 cd32 ct32), sl32⟩)
    (c32 : PySem.W.codeIn K cd32 "with_times" = true)
    (k32 : PySem.W.keepIn K (.ref f32) = true)
    (a33 : PySem.W.nsIn K mainGlobals "repeated" = some (some (.ref f33)))
    (l33 : K.lookup f33 = some ⟨oc33, od33, .func (PySem.W.fnOf "repeated" "repeated" (defArgs s_repeated) (defBody s_repeated) (defScope s_repeated) .none kV33 dc33 pm33 an33 cd33 ct33), sl33⟩)
    (c33 : PySem.W.codeIn K cd33 "repeated" = true)
    (k33 : PySem.W.keepIn K (.ref f33) = true)
    (a34 : PySem.W.nsIn K mainGlobals "_law_made_fault" = some (some (.ref f34)))
    (l34 : K.lookup f34 = some ⟨oc34, od34, .func (PySem.W.fnOf "_law_made_fault" "_law_made_fault" (defArgs s__law_made_fault) (defBody s__law_made_fault) (defScope s__law_made_fault) .none kV34 dc34 pm34 an34 cd34 ct34), sl34⟩)
    (c34 : PySem.W.codeIn K cd34 "_law_made_fault" = true)
    (k34 : PySem.W.keepIn K (.ref f34) = true)
    (a35 : PySem.W.nsIn K mainGlobals "_law_set" = some (some (.ref f35)))
    (l35 : K.lookup f35 = some ⟨oc35, od35, .func (PySem.W.fnOf "_law_set" "_law_set" (defArgs s__law_set) (defBody s__law_set) (defScope s__law_set) .none kV35 dc35 pm35 an35 cd35 ct35), sl35⟩)
    (c35 : PySem.W.codeIn K cd35 "_law_set" = true)
    (k35 : PySem.W.keepIn K (.ref f35) = true)
    (aXBadValue : PySem.W.nsIn K mainGlobals "BadValue" = some (some (.ref XBadValue)))
    (inXBadValue : PySem.W.excInitIn K XBadValue [.type "Exception", .type "BaseException", .type "object"] "Exception.__new__" = true)
    (ovXBadValue : PySem.W.excOver K XBadValue [.type "Exception", .type "BaseException", .type "object"] = true)
    (saXBadValue : PySem.W.findIn K (.ref XBadValue) "__setattr__" = some (some (.builtin "object.__setattr__")))
    (gaXBadValue : PySem.W.findIn K (.ref XBadValue) "__getattribute__" = some (some (.builtin "BaseException.__getattribute__")))
    (ggXBadValue : PySem.W.findIn K (.ref XBadValue) "__getattr__" = some none)
    (nnXBadValue : PySem.W.findIn K (.ref XBadValue) "at" = some none)
    (tkXBadValue : PySem.W.takerIn K XBadValue "at" = some none)
    (iCXBadValue : PySem.W.findIn K (.ref XBadValue) "__init__" = some (some (.ref fXBadValue)))
    (tCXBadValue : PySem.W.typeIn K (.ref fXBadValue) = some (.type "function"))
    (kCXBadValue : PySem.W.keepIn K (.ref XBadValue) = true)
    (eCXBadValue : PySem.W.subIn K (.ref XBadValue) (.type "BaseException") = some true)
    (tyXBadValue : PySem.W.typeIn K (.ref XBadValue) = some (.type "type"))
    (hdXBadValue : PySem.W.hasDictIn K XBadValue = true)
    (isXBadValue : PySem.W.isClsIn K XBadValue = true)
    (suXBadValue : PySem.W.subIn K (.ref XBadValue) (.ref XBadValue) = some true)
    (lXBadValue : K.lookup fXBadValue = some ⟨ocXBadValue, odXBadValue, .func (PySem.W.fnOf "__init__" "BadValue.__init__" (PySem.Err.iA "at" p1XBadValue p2XBadValue) (PySem.Err.iB "at" q1XBadValue q2XBadValue q3XBadValue q4XBadValue) (PySem.Err.iS "at") .none kVXBadValue dcXBadValue pmXBadValue anXBadValue cdXBadValue ctXBadValue), slXBadValue⟩)
    (cXBadValue : PySem.W.codeIn K cdXBadValue "BadValue.__init__" = true)
    (aXTooMany : PySem.W.nsIn K mainGlobals "TooMany" = some (some (.ref XTooMany)))
    (inXTooMany : PySem.W.excInitIn K XTooMany [.type "Exception", .type "BaseException", .type "object"] "Exception.__new__" = true)
    (ovXTooMany : PySem.W.excOver K XTooMany [.type "Exception", .type "BaseException", .type "object"] = true)
    (saXTooMany : PySem.W.findIn K (.ref XTooMany) "__setattr__" = some (some (.builtin "object.__setattr__")))
    (gaXTooMany : PySem.W.findIn K (.ref XTooMany) "__getattribute__" = some (some (.builtin "BaseException.__getattribute__")))
    (ggXTooMany : PySem.W.findIn K (.ref XTooMany) "__getattr__" = some none)
    (nnXTooMany : PySem.W.findIn K (.ref XTooMany) "word" = some none)
    (tkXTooMany : PySem.W.takerIn K XTooMany "word" = some none)
    (iCXTooMany : PySem.W.findIn K (.ref XTooMany) "__init__" = some (some (.ref fXTooMany)))
    (tCXTooMany : PySem.W.typeIn K (.ref fXTooMany) = some (.type "function"))
    (kCXTooMany : PySem.W.keepIn K (.ref XTooMany) = true)
    (eCXTooMany : PySem.W.subIn K (.ref XTooMany) (.type "BaseException") = some true)
    (tyXTooMany : PySem.W.typeIn K (.ref XTooMany) = some (.type "type"))
    (hdXTooMany : PySem.W.hasDictIn K XTooMany = true)
    (isXTooMany : PySem.W.isClsIn K XTooMany = true)
    (suXTooMany : PySem.W.subIn K (.ref XTooMany) (.ref XTooMany) = some true)
    (lXTooMany : K.lookup fXTooMany = some ⟨ocXTooMany, odXTooMany, .func (PySem.W.fnOf "__init__" "TooMany.__init__" (PySem.Err.iA "word" p1XTooMany p2XTooMany) (PySem.Err.iB "word" q1XTooMany q2XTooMany q3XTooMany q4XTooMany) (PySem.Err.iS "word") .none kVXTooMany dcXTooMany pmXTooMany anXTooMany cdXTooMany ctXTooMany), slXTooMany⟩)
    (cXTooMany : PySem.W.codeIn K cdXTooMany "TooMany.__init__" = true)
    (aXBadTask : PySem.W.nsIn K mainGlobals "BadTask" = some (some (.ref XBadTask)))
    (inXBadTask : PySem.W.excInitIn K XBadTask [.type "Exception", .type "BaseException", .type "object"] "Exception.__new__" = true)
    (ovXBadTask : PySem.W.excOver K XBadTask [.type "Exception", .type "BaseException", .type "object"] = true)
    (saXBadTask : PySem.W.findIn K (.ref XBadTask) "__setattr__" = some (some (.builtin "object.__setattr__")))
    (gaXBadTask : PySem.W.findIn K (.ref XBadTask) "__getattribute__" = some (some (.builtin "BaseException.__getattribute__")))
    (ggXBadTask : PySem.W.findIn K (.ref XBadTask) "__getattr__" = some none)
    (nnXBadTask : PySem.W.findIn K (.ref XBadTask) "at" = some none)
    (tkXBadTask : PySem.W.takerIn K XBadTask "at" = some none)
    (iCXBadTask : PySem.W.findIn K (.ref XBadTask) "__init__" = some (some (.ref fXBadTask)))
    (tCXBadTask : PySem.W.typeIn K (.ref fXBadTask) = some (.type "function"))
    (kCXBadTask : PySem.W.keepIn K (.ref XBadTask) = true)
    (eCXBadTask : PySem.W.subIn K (.ref XBadTask) (.type "BaseException") = some true)
    (tyXBadTask : PySem.W.typeIn K (.ref XBadTask) = some (.type "type"))
    (hdXBadTask : PySem.W.hasDictIn K XBadTask = true)
    (isXBadTask : PySem.W.isClsIn K XBadTask = true)
    (suXBadTask : PySem.W.subIn K (.ref XBadTask) (.ref XBadTask) = some true)
    (lXBadTask : K.lookup fXBadTask = some ⟨ocXBadTask, odXBadTask, .func (PySem.W.fnOf "__init__" "BadTask.__init__" (PySem.Err.iA "at" p1XBadTask p2XBadTask) (PySem.Err.iB "at" q1XBadTask q2XBadTask q3XBadTask q4XBadTask) (PySem.Err.iS "at") .none kVXBadTask dcXBadTask pmXBadTask anXBadTask cdXBadTask ctXBadTask), slXBadTask⟩)
    (cXBadTask : PySem.W.codeIn K cdXBadTask "BadTask.__init__" = true)
    (aXBadPair : PySem.W.nsIn K mainGlobals "BadPair" = some (some (.ref XBadPair)))
    (inXBadPair : PySem.W.excInitIn K XBadPair [.type "Exception", .type "BaseException", .type "object"] "Exception.__new__" = true)
    (ovXBadPair : PySem.W.excOver K XBadPair [.type "Exception", .type "BaseException", .type "object"] = true)
    (saXBadPair : PySem.W.findIn K (.ref XBadPair) "__setattr__" = some (some (.builtin "object.__setattr__")))
    (gaXBadPair : PySem.W.findIn K (.ref XBadPair) "__getattribute__" = some (some (.builtin "BaseException.__getattribute__")))
    (ggXBadPair : PySem.W.findIn K (.ref XBadPair) "__getattr__" = some none)
    (nnXBadPair : PySem.W.findIn K (.ref XBadPair) "at" = some none)
    (tkXBadPair : PySem.W.takerIn K XBadPair "at" = some none)
    (iCXBadPair : PySem.W.findIn K (.ref XBadPair) "__init__" = some (some (.ref fXBadPair)))
    (tCXBadPair : PySem.W.typeIn K (.ref fXBadPair) = some (.type "function"))
    (kCXBadPair : PySem.W.keepIn K (.ref XBadPair) = true)
    (eCXBadPair : PySem.W.subIn K (.ref XBadPair) (.type "BaseException") = some true)
    (tyXBadPair : PySem.W.typeIn K (.ref XBadPair) = some (.type "type"))
    (hdXBadPair : PySem.W.hasDictIn K XBadPair = true)
    (isXBadPair : PySem.W.isClsIn K XBadPair = true)
    (suXBadPair : PySem.W.subIn K (.ref XBadPair) (.ref XBadPair) = some true)
    (lXBadPair : K.lookup fXBadPair = some ⟨ocXBadPair, odXBadPair, .func (PySem.W.fnOf "__init__" "BadPair.__init__" (PySem.Err.iA "at" p1XBadPair p2XBadPair) (PySem.Err.iB "at" q1XBadPair q2XBadPair q3XBadPair q4XBadPair) (PySem.Err.iS "at") .none kVXBadPair dcXBadPair pmXBadPair anXBadPair cdXBadPair ctXBadPair), slXBadPair⟩)
    (cXBadPair : PySem.W.codeIn K cdXBadPair "BadPair.__init__" = true)
    (aXBadModel : PySem.W.nsIn K mainGlobals "BadModel" = some (some (.ref XBadModel)))
    (inXBadModel : PySem.W.excInitIn K XBadModel [.type "Exception", .type "BaseException", .type "object"] "Exception.__new__" = true)
    (ovXBadModel : PySem.W.excOver K XBadModel [.type "Exception", .type "BaseException", .type "object"] = true)
    (saXBadModel : PySem.W.findIn K (.ref XBadModel) "__setattr__" = some (some (.builtin "object.__setattr__")))
    (gaXBadModel : PySem.W.findIn K (.ref XBadModel) "__getattribute__" = some (some (.builtin "BaseException.__getattribute__")))
    (ggXBadModel : PySem.W.findIn K (.ref XBadModel) "__getattr__" = some none)
    (nnXBadModel : PySem.W.findIn K (.ref XBadModel) "at" = some none)
    (tkXBadModel : PySem.W.takerIn K XBadModel "at" = some none)
    (iCXBadModel : PySem.W.findIn K (.ref XBadModel) "__init__" = some (some (.ref fXBadModel)))
    (tCXBadModel : PySem.W.typeIn K (.ref fXBadModel) = some (.type "function"))
    (kCXBadModel : PySem.W.keepIn K (.ref XBadModel) = true)
    (eCXBadModel : PySem.W.subIn K (.ref XBadModel) (.type "BaseException") = some true)
    (tyXBadModel : PySem.W.typeIn K (.ref XBadModel) = some (.type "type"))
    (hdXBadModel : PySem.W.hasDictIn K XBadModel = true)
    (isXBadModel : PySem.W.isClsIn K XBadModel = true)
    (suXBadModel : PySem.W.subIn K (.ref XBadModel) (.ref XBadModel) = some true)
    (lXBadModel : K.lookup fXBadModel = some ⟨ocXBadModel, odXBadModel, .func (PySem.W.fnOf "__init__" "BadModel.__init__" (PySem.Err.iA "at" p1XBadModel p2XBadModel) (PySem.Err.iB "at" q1XBadModel q2XBadModel q3XBadModel q4XBadModel) (PySem.Err.iS "at") .none kVXBadModel dcXBadModel pmXBadModel anXBadModel cdXBadModel ctXBadModel), slXBadModel⟩)
    (cXBadModel : PySem.W.codeIn K cdXBadModel "BadModel.__init__" = true)
    (aXBadState : PySem.W.nsIn K mainGlobals "BadState" = some (some (.ref XBadState)))
    (inXBadState : PySem.W.excInitIn K XBadState [.type "Exception", .type "BaseException", .type "object"] "Exception.__new__" = true)
    (ovXBadState : PySem.W.excOver K XBadState [.type "Exception", .type "BaseException", .type "object"] = true)
    (saXBadState : PySem.W.findIn K (.ref XBadState) "__setattr__" = some (some (.builtin "object.__setattr__")))
    (gaXBadState : PySem.W.findIn K (.ref XBadState) "__getattribute__" = some (some (.builtin "BaseException.__getattribute__")))
    (ggXBadState : PySem.W.findIn K (.ref XBadState) "__getattr__" = some none)
    (nnXBadState : PySem.W.findIn K (.ref XBadState) "at" = some none)
    (tkXBadState : PySem.W.takerIn K XBadState "at" = some none)
    (iCXBadState : PySem.W.findIn K (.ref XBadState) "__init__" = some (some (.ref fXBadState)))
    (tCXBadState : PySem.W.typeIn K (.ref fXBadState) = some (.type "function"))
    (kCXBadState : PySem.W.keepIn K (.ref XBadState) = true)
    (eCXBadState : PySem.W.subIn K (.ref XBadState) (.type "BaseException") = some true)
    (tyXBadState : PySem.W.typeIn K (.ref XBadState) = some (.type "type"))
    (hdXBadState : PySem.W.hasDictIn K XBadState = true)
    (isXBadState : PySem.W.isClsIn K XBadState = true)
    (suXBadState : PySem.W.subIn K (.ref XBadState) (.ref XBadState) = some true)
    (lXBadState : K.lookup fXBadState = some ⟨ocXBadState, odXBadState, .func (PySem.W.fnOf "__init__" "BadState.__init__" (PySem.Err.iA "at" p1XBadState p2XBadState) (PySem.Err.iB "at" q1XBadState q2XBadState q3XBadState q4XBadState) (PySem.Err.iS "at") .none kVXBadState dcXBadState pmXBadState anXBadState cdXBadState ctXBadState), slXBadState⟩)
    (cXBadState : PySem.W.codeIn K cdXBadState "BadState.__init__" = true)
    (aC : PySem.W.nsIn K mainGlobals "Line" = some (some (.ref C)))
    (pg : PySem.W.plainGet K C Str.empty = true)
    (hd : PySem.W.hasDictIn K C = true)
    (po : PySem.W.plainOver K C = true)
    (sa : PySem.W.findIn K (.ref C) "__setattr__" = some (some (.builtin "object.__setattr__")))
    (n_tasks : PySem.W.findIn K (.ref C) "_tasks" = some none)
    (atPtasks : PySem.W.findIn K (.ref C) "tasks" = some (some (.ref pPtasks)))
    (gePtasks : PySem.W.specialIn K (.ref pPtasks) "__get__" = some (some (.builtin "property.__get__")))
    (taPtasks : PySem.W.takesIn K (.ref pPtasks) = some true)
    (rePtasks : PySem.W.recIn K pPtasks "property" = some (.ref fPtasks :: rPtasks))
    (lPtasks : K.lookup fPtasks = some ⟨ocPtasks, odPtasks, .func (PySem.W.fnOf "tasks" "Line.tasks" (defArgs s_Line_tasks) (defBody s_Line_tasks) (defScope s_Line_tasks) .none kVPtasks dcPtasks pmPtasks anPtasks cdPtasks ctPtasks), slPtasks⟩)
    (cPtasks : PySem.W.codeIn K cdPtasks "Line.tasks" = true)
    (kPtasks : PySem.W.keepIn K (.ref fPtasks) = true)
    (n_order : PySem.W.findIn K (.ref C) "_order" = some none)
    (atPorder : PySem.W.findIn K (.ref C) "order" = some (some (.ref pPorder)))
    (gePorder : PySem.W.specialIn K (.ref pPorder) "__get__" = some (some (.builtin "property.__get__")))
    (taPorder : PySem.W.takesIn K (.ref pPorder) = some true)
    (rePorder : PySem.W.recIn K pPorder "property" = some (.ref fPorder :: rPorder))
    (lPorder : K.lookup fPorder = some ⟨ocPorder, odPorder, .func (PySem.W.fnOf "order" "Line.order" (defArgs s_Line_order) (defBody s_Line_order) (defScope s_Line_order) .none kVPorder dcPorder pmPorder anPorder cdPorder ctPorder), slPorder⟩)
    (cPorder : PySem.W.codeIn K cdPorder "Line.order" = true)
    (kPorder : PySem.W.keepIn K (.ref fPorder) = true)
    (n_models : PySem.W.findIn K (.ref C) "_models" = some none)
    (atPmodels : PySem.W.findIn K (.ref C) "models" = some (some (.ref pPmodels)))
    (gePmodels : PySem.W.specialIn K (.ref pPmodels) "__get__" = some (some (.builtin "property.__get__")))
    (taPmodels : PySem.W.takesIn K (.ref pPmodels) = some true)
    (rePmodels : PySem.W.recIn K pPmodels "property" = some (.ref fPmodels :: rPmodels))
    (lPmodels : K.lookup fPmodels = some ⟨ocPmodels, odPmodels, .func (PySem.W.fnOf "models" "Line.models" (defArgs s_Line_models) (defBody s_Line_models) (defScope s_Line_models) .none kVPmodels dcPmodels pmPmodels anPmodels cdPmodels ctPmodels), slPmodels⟩)
    (cPmodels : PySem.W.codeIn K cdPmodels "Line.models" = true)
    (kPmodels : PySem.W.keepIn K (.ref fPmodels) = true)
    (n_states : PySem.W.findIn K (.ref C) "_states" = some none)
    (atPstates : PySem.W.findIn K (.ref C) "states" = some (some (.ref pPstates)))
    (gePstates : PySem.W.specialIn K (.ref pPstates) "__get__" = some (some (.builtin "property.__get__")))
    (taPstates : PySem.W.takesIn K (.ref pPstates) = some true)
    (rePstates : PySem.W.recIn K pPstates "property" = some (.ref fPstates :: rPstates))
    (lPstates : K.lookup fPstates = some ⟨ocPstates, odPstates, .func (PySem.W.fnOf "states" "Line.states" (defArgs s_Line_states) (defBody s_Line_states) (defScope s_Line_states) .none kVPstates dcPstates pmPstates anPstates cdPstates ctPstates), slPstates⟩)
    (cPstates : PySem.W.codeIn K cdPstates "Line.states" = true)
    (kPstates : PySem.W.keepIn K (.ref fPstates) = true)
    (n_start : PySem.W.findIn K (.ref C) "_start" = some none)
    (atPstart : PySem.W.findIn K (.ref C) "start" = some (some (.ref pPstart)))
    (gePstart : PySem.W.specialIn K (.ref pPstart) "__get__" = some (some (.builtin "property.__get__")))
    (taPstart : PySem.W.takesIn K (.ref pPstart) = some true)
    (rePstart : PySem.W.recIn K pPstart "property" = some (.ref fPstart :: rPstart))
    (lPstart : K.lookup fPstart = some ⟨ocPstart, odPstart, .func (PySem.W.fnOf "start" "Line.start" (defArgs s_Line_start) (defBody s_Line_start) (defScope s_Line_start) .none kVPstart dcPstart pmPstart anPstart cdPstart ctPstart), slPstart⟩)
    (cPstart : PySem.W.codeIn K cdPstart "Line.start" = true)
    (kPstart : PySem.W.keepIn K (.ref fPstart) = true)
    (n_slips : PySem.W.findIn K (.ref C) "_slips" = some none)
    (atPslips : PySem.W.findIn K (.ref C) "slips" = some (some (.ref pPslips)))
    (gePslips : PySem.W.specialIn K (.ref pPslips) "__get__" = some (some (.builtin "property.__get__")))
    (taPslips : PySem.W.takesIn K (.ref pPslips) = some true)
    (rePslips : PySem.W.recIn K pPslips "property" = some (.ref fPslips :: rPslips))
    (lPslips : K.lookup fPslips = some ⟨ocPslips, odPslips, .func (PySem.W.fnOf "slips" "Line.slips" (defArgs s_Line_slips) (defBody s_Line_slips) (defScope s_Line_slips) .none kVPslips dcPslips pmPslips anPslips cdPslips ctPslips), slPslips⟩)
    (cPslips : PySem.W.codeIn K cdPslips "Line.slips" = true)
    (kPslips : PySem.W.keepIn K (.ref fPslips) = true)
    (mkC : PySem.W.makesIn K C = true)
    (iC : PySem.W.findIn K (.ref C) "__init__" = some (some (.ref fI)))
    (isI : PySem.W.isFn K (.ref fI) = true)
    (kC : PySem.W.keepIn K (.ref C) = true)
    (lI : K.lookup fI = some ⟨ocI, odI, .func (PySem.W.fnOf "__init__" "Line.__init__" (defArgs s_Line___init__) (defBody s_Line___init__) (defScope s_Line___init__) .none (.ref DI) dcI pmI anI cdI ctI), slI⟩)
    (cI : PySem.W.codeIn K cdI "Line.__init__" = true)
    (kI : PySem.W.keepIn K (.ref fI) = true)
    (sI : PySem.W.nsIn K DI "slips" = some (some (.int 0 tI)))
    (aKfree_line : PySem.W.nsIn K mainGlobals "free_line" = some (some (.ref fKfree_line)))
    (lKfree_line : K.lookup fKfree_line = some ⟨ocKfree_line, odKfree_line, .func (PySem.W.fnOf "free_line" "free_line" (defArgs s_free_line) (defBody s_free_line) (defScope s_free_line) .none (.ref DKfree_line) dcKfree_line pmKfree_line anKfree_line cdKfree_line ctKfree_line), slKfree_line⟩)
    (cKfree_line : PySem.W.codeIn K cdKfree_line "free_line" = true)
    (kKfree_line : PySem.W.keepIn K (.ref fKfree_line) = true)
    (sKfree_line : PySem.W.nsIn K DKfree_line "slips" = some (some (.int 0 tKfree_line)))
    (noXBadValue_TooMany : PySem.W.subIn K (.ref XBadValue) (.ref XTooMany) = some false)
    (noXBadValue_BadTask : PySem.W.subIn K (.ref XBadValue) (.ref XBadTask) = some false)
    (noXBadValue_BadPair : PySem.W.subIn K (.ref XBadValue) (.ref XBadPair) = some false)
    (noXBadValue_BadModel : PySem.W.subIn K (.ref XBadValue) (.ref XBadModel) = some false)
    (noXBadValue_BadState : PySem.W.subIn K (.ref XBadValue) (.ref XBadState) = some false)
    (noXTooMany_BadValue : PySem.W.subIn K (.ref XTooMany) (.ref XBadValue) = some false)
    (noXTooMany_BadTask : PySem.W.subIn K (.ref XTooMany) (.ref XBadTask) = some false)
    (noXTooMany_BadPair : PySem.W.subIn K (.ref XTooMany) (.ref XBadPair) = some false)
    (noXTooMany_BadModel : PySem.W.subIn K (.ref XTooMany) (.ref XBadModel) = some false)
    (noXTooMany_BadState : PySem.W.subIn K (.ref XTooMany) (.ref XBadState) = some false)
    (noXBadTask_BadValue : PySem.W.subIn K (.ref XBadTask) (.ref XBadValue) = some false)
    (noXBadTask_TooMany : PySem.W.subIn K (.ref XBadTask) (.ref XTooMany) = some false)
    (noXBadTask_BadPair : PySem.W.subIn K (.ref XBadTask) (.ref XBadPair) = some false)
    (noXBadTask_BadModel : PySem.W.subIn K (.ref XBadTask) (.ref XBadModel) = some false)
    (noXBadTask_BadState : PySem.W.subIn K (.ref XBadTask) (.ref XBadState) = some false)
    (noXBadPair_BadValue : PySem.W.subIn K (.ref XBadPair) (.ref XBadValue) = some false)
    (noXBadPair_TooMany : PySem.W.subIn K (.ref XBadPair) (.ref XTooMany) = some false)
    (noXBadPair_BadTask : PySem.W.subIn K (.ref XBadPair) (.ref XBadTask) = some false)
    (noXBadPair_BadModel : PySem.W.subIn K (.ref XBadPair) (.ref XBadModel) = some false)
    (noXBadPair_BadState : PySem.W.subIn K (.ref XBadPair) (.ref XBadState) = some false)
    (noXBadModel_BadValue : PySem.W.subIn K (.ref XBadModel) (.ref XBadValue) = some false)
    (noXBadModel_TooMany : PySem.W.subIn K (.ref XBadModel) (.ref XTooMany) = some false)
    (noXBadModel_BadTask : PySem.W.subIn K (.ref XBadModel) (.ref XBadTask) = some false)
    (noXBadModel_BadPair : PySem.W.subIn K (.ref XBadModel) (.ref XBadPair) = some false)
    (noXBadModel_BadState : PySem.W.subIn K (.ref XBadModel) (.ref XBadState) = some false)
    (noXBadState_BadValue : PySem.W.subIn K (.ref XBadState) (.ref XBadValue) = some false)
    (noXBadState_TooMany : PySem.W.subIn K (.ref XBadState) (.ref XTooMany) = some false)
    (noXBadState_BadTask : PySem.W.subIn K (.ref XBadState) (.ref XBadTask) = some false)
    (noXBadState_BadPair : PySem.W.subIn K (.ref XBadState) (.ref XBadPair) = some false)
    (noXBadState_BadModel : PySem.W.subIn K (.ref XBadState) (.ref XBadModel) = some false)
    (aL : PySem.W.nsIn K mainGlobals "law" = some (some (.ref fL)))
    (lL : K.lookup fL = some ⟨ocL, odL, .func (PySem.W.fnOf "law" "law" (defArgs s_law) (defBody s_law) (defScope s_law) .none kVL dcL pmL anL cdL ctL), slL⟩)
    (cL : PySem.W.codeIn K cdL "law" = true)
    (kL : PySem.W.keepIn K (.ref fL) = true) :
    ∃ fd : FuncData, (∀ (s : Shared) (v : Value), BindsTo s fd ⟨[v], []⟩ [("script", v)]) ∧ ∀ base : Heap, K.In base → base.Ns mainGlobals mg → FnOk P w K mg base (L2.CX P w) 10 fa fd ["script"] (spLaw K) := by
  obtain ⟨kc, rfl, rfl, rfl, rfl, rfl, rfl, rfl⟩ : ∃ kc : Str → Addr, XBadValue = kc "BadValue" ∧ XTooMany = kc "TooMany" ∧ XBadTask = kc "BadTask" ∧ XBadPair = kc "BadPair" ∧ XBadModel = kc "BadModel" ∧ XBadState = kc "BadState" ∧ C = kc "Line" := ⟨fun s => (if s = ("BadValue" : Str) then XBadValue else (if s = ("TooMany" : Str) then XTooMany else (if s = ("BadTask" : Str) then XBadTask else (if s = ("BadPair" : Str) then XBadPair else (if s = ("BadModel" : Str) then XBadModel else (if s = ("BadState" : Str) then XBadState else (if s = ("Line" : Str) then C else 0))))))), ((if_pos rfl)).symm, (((if_neg (by decide)).trans (if_pos rfl))).symm, (((if_neg (by decide)).trans ((if_neg (by decide)).trans (if_pos rfl)))).symm, (((if_neg (by decide)).trans ((if_neg (by decide)).trans ((if_neg (by decide)).trans (if_pos rfl))))).symm, (((if_neg (by decide)).trans ((if_neg (by decide)).trans ((if_neg (by decide)).trans ((if_neg (by decide)).trans (if_pos rfl)))))).symm, (((if_neg (by decide)).trans ((if_neg (by decide)).trans ((if_neg (by decide)).trans ((if_neg (by decide)).trans ((if_neg (by decide)).trans (if_pos rfl))))))).symm, (((if_neg (by decide)).trans ((if_neg (by decide)).trans ((if_neg (by decide)).trans ((if_neg (by decide)).trans ((if_neg (by decide)).trans ((if_neg (by decide)).trans (if_pos rfl)))))))).symm⟩
  have EBadValue : PySem.Err.Txt K mg "BadValue" "BadValue.__init__" "at" (kc "BadValue") fXBadValue := ⟨.inl rfl, PySem.W.mg_of X G aXBadValue, inXBadValue, ovXBadValue, saXBadValue, gaXBadValue, ggXBadValue, nnXBadValue, tkXBadValue, iCXBadValue, tCXBadValue, kCXBadValue, eCXBadValue, tyXBadValue, hdXBadValue, ⟨_, _, _, _, _, _, _, _, _, _, _, _, _, _, _, lXBadValue, cXBadValue⟩⟩
  have ETooMany : PySem.Err.Txt K mg "TooMany" "TooMany.__init__" "word" (kc "TooMany") fXTooMany := ⟨.inr rfl, PySem.W.mg_of X G aXTooMany, inXTooMany, ovXTooMany, saXTooMany, gaXTooMany, ggXTooMany, nnXTooMany, tkXTooMany, iCXTooMany, tCXTooMany, kCXTooMany, eCXTooMany, tyXTooMany, hdXTooMany, ⟨_, _, _, _, _, _, _, _, _, _, _, _, _, _, _, lXTooMany, cXTooMany⟩⟩
  have EBadTask : PySem.Err.Txt K mg "BadTask" "BadTask.__init__" "at" (kc "BadTask") fXBadTask := ⟨.inl rfl, PySem.W.mg_of X G aXBadTask, inXBadTask, ovXBadTask, saXBadTask, gaXBadTask, ggXBadTask, nnXBadTask, tkXBadTask, iCXBadTask, tCXBadTask, kCXBadTask, eCXBadTask, tyXBadTask, hdXBadTask, ⟨_, _, _, _, _, _, _, _, _, _, _, _, _, _, _, lXBadTask, cXBadTask⟩⟩
  have EBadPair : PySem.Err.Txt K mg "BadPair" "BadPair.__init__" "at" (kc "BadPair") fXBadPair := ⟨.inl rfl, PySem.W.mg_of X G aXBadPair, inXBadPair, ovXBadPair, saXBadPair, gaXBadPair, ggXBadPair, nnXBadPair, tkXBadPair, iCXBadPair, tCXBadPair, kCXBadPair, eCXBadPair, tyXBadPair, hdXBadPair, ⟨_, _, _, _, _, _, _, _, _, _, _, _, _, _, _, lXBadPair, cXBadPair⟩⟩
  have EBadModel : PySem.Err.Txt K mg "BadModel" "BadModel.__init__" "at" (kc "BadModel") fXBadModel := ⟨.inl rfl, PySem.W.mg_of X G aXBadModel, inXBadModel, ovXBadModel, saXBadModel, gaXBadModel, ggXBadModel, nnXBadModel, tkXBadModel, iCXBadModel, tCXBadModel, kCXBadModel, eCXBadModel, tyXBadModel, hdXBadModel, ⟨_, _, _, _, _, _, _, _, _, _, _, _, _, _, _, lXBadModel, cXBadModel⟩⟩
  have EBadState : PySem.Err.Txt K mg "BadState" "BadState.__init__" "at" (kc "BadState") fXBadState := ⟨.inl rfl, PySem.W.mg_of X G aXBadState, inXBadState, ovXBadState, saXBadState, gaXBadState, ggXBadState, nnXBadState, tkXBadState, iCXBadState, tCXBadState, kCXBadState, eCXBadState, tyXBadState, hdXBadState, ⟨_, _, _, _, _, _, _, _, _, _, _, _, _, _, _, lXBadState, cXBadState⟩⟩
  have EX : ExmA K kc errCs := by
    intro c hc c' hc'
    simp only [errCs, List.mem_cons, List.not_mem_nil, or_false] at hc hc'
    rcases hc with rfl | rfl | rfl | rfl | rfl | rfl
    · rcases hc' with rfl | rfl | rfl | rfl | rfl | rfl
      · exact (PySem.W.exm_ref eCXBadValue hdXBadValue tyXBadValue suXBadValue)
      · exact (PySem.W.exm_ref eCXTooMany hdXTooMany tyXTooMany noXBadValue_TooMany)
      · exact (PySem.W.exm_ref eCXBadTask hdXBadTask tyXBadTask noXBadValue_BadTask)
      · exact (PySem.W.exm_ref eCXBadPair hdXBadPair tyXBadPair noXBadValue_BadPair)
      · exact (PySem.W.exm_ref eCXBadModel hdXBadModel tyXBadModel noXBadValue_BadModel)
      · exact (PySem.W.exm_ref eCXBadState hdXBadState tyXBadState noXBadValue_BadState)
    · rcases hc' with rfl | rfl | rfl | rfl | rfl | rfl
      · exact (PySem.W.exm_ref eCXBadValue hdXBadValue tyXBadValue noXTooMany_BadValue)
      · exact (PySem.W.exm_ref eCXTooMany hdXTooMany tyXTooMany suXTooMany)
      · exact (PySem.W.exm_ref eCXBadTask hdXBadTask tyXBadTask noXTooMany_BadTask)
      · exact (PySem.W.exm_ref eCXBadPair hdXBadPair tyXBadPair noXTooMany_BadPair)
      · exact (PySem.W.exm_ref eCXBadModel hdXBadModel tyXBadModel noXTooMany_BadModel)
      · exact (PySem.W.exm_ref eCXBadState hdXBadState tyXBadState noXTooMany_BadState)
    · rcases hc' with rfl | rfl | rfl | rfl | rfl | rfl
      · exact (PySem.W.exm_ref eCXBadValue hdXBadValue tyXBadValue noXBadTask_BadValue)
      · exact (PySem.W.exm_ref eCXTooMany hdXTooMany tyXTooMany noXBadTask_TooMany)
      · exact (PySem.W.exm_ref eCXBadTask hdXBadTask tyXBadTask suXBadTask)
      · exact (PySem.W.exm_ref eCXBadPair hdXBadPair tyXBadPair noXBadTask_BadPair)
      · exact (PySem.W.exm_ref eCXBadModel hdXBadModel tyXBadModel noXBadTask_BadModel)
      · exact (PySem.W.exm_ref eCXBadState hdXBadState tyXBadState noXBadTask_BadState)
    · rcases hc' with rfl | rfl | rfl | rfl | rfl | rfl
      · exact (PySem.W.exm_ref eCXBadValue hdXBadValue tyXBadValue noXBadPair_BadValue)
      · exact (PySem.W.exm_ref eCXTooMany hdXTooMany tyXTooMany noXBadPair_TooMany)
      · exact (PySem.W.exm_ref eCXBadTask hdXBadTask tyXBadTask noXBadPair_BadTask)
      · exact (PySem.W.exm_ref eCXBadPair hdXBadPair tyXBadPair suXBadPair)
      · exact (PySem.W.exm_ref eCXBadModel hdXBadModel tyXBadModel noXBadPair_BadModel)
      · exact (PySem.W.exm_ref eCXBadState hdXBadState tyXBadState noXBadPair_BadState)
    · rcases hc' with rfl | rfl | rfl | rfl | rfl | rfl
      · exact (PySem.W.exm_ref eCXBadValue hdXBadValue tyXBadValue noXBadModel_BadValue)
      · exact (PySem.W.exm_ref eCXTooMany hdXTooMany tyXTooMany noXBadModel_TooMany)
      · exact (PySem.W.exm_ref eCXBadTask hdXBadTask tyXBadTask noXBadModel_BadTask)
      · exact (PySem.W.exm_ref eCXBadPair hdXBadPair tyXBadPair noXBadModel_BadPair)
      · exact (PySem.W.exm_ref eCXBadModel hdXBadModel tyXBadModel suXBadModel)
      · exact (PySem.W.exm_ref eCXBadState hdXBadState tyXBadState noXBadModel_BadState)
    · rcases hc' with rfl | rfl | rfl | rfl | rfl | rfl
      · exact (PySem.W.exm_ref eCXBadValue hdXBadValue tyXBadValue noXBadState_BadValue)
      · exact (PySem.W.exm_ref eCXTooMany hdXTooMany tyXTooMany noXBadState_TooMany)
      · exact (PySem.W.exm_ref eCXBadTask hdXBadTask tyXBadTask noXBadState_BadTask)
      · exact (PySem.W.exm_ref eCXBadPair hdXBadPair tyXBadPair noXBadState_BadPair)
      · exact (PySem.W.exm_ref eCXBadModel hdXBadModel tyXBadModel noXBadState_BadModel)
      · exact (PySem.W.exm_ref eCXBadState hdXBadState tyXBadState suXBadState)
  have T : Tx K mg kc := {
    z_range := PySem.W.mg_none_of X G z_range
    z_int := PySem.W.mg_none_of X G z_int
    z_len := PySem.W.mg_none_of X G z_len
    z_min := PySem.W.mg_none_of X G z_min
    z_list := PySem.W.mg_none_of X G z_list
    z_max := PySem.W.mg_none_of X G z_max
    z_tuple := PySem.W.mg_none_of X G z_tuple
    z_isinstance := PySem.W.mg_none_of X G z_isinstance
    z_bool := PySem.W.mg_none_of X G z_bool
    z_enumerate := PySem.W.mg_none_of X G z_enumerate
    z_all := PySem.W.mg_none_of X G z_all
    m_MOST_TIME := ⟨_, PySem.W.mg_of X G m_MOST_TIME, ⟨t_MOST_TIME, rfl⟩⟩
    m_MOST_TASKS := ⟨_, PySem.W.mg_of X G m_MOST_TASKS, ⟨t_MOST_TASKS, rfl⟩⟩
    m_MOST_PAIRS := ⟨_, PySem.W.mg_of X G m_MOST_PAIRS, ⟨t_MOST_PAIRS, rfl⟩⟩
    m_MOST_MODELS := ⟨_, PySem.W.mg_of X G m_MOST_MODELS, ⟨t_MOST_MODELS, rfl⟩⟩
    m_MOST_ARCS := ⟨_, PySem.W.mg_of X G m_MOST_ARCS, ⟨t_MOST_ARCS, rfl⟩⟩
    m_MOST_STATES := ⟨_, PySem.W.mg_of X G m_MOST_STATES, ⟨t_MOST_STATES, rfl⟩⟩
    m_MOST_SLIPS := ⟨_, PySem.W.mg_of X G m_MOST_SLIPS, ⟨t_MOST_SLIPS, rfl⟩⟩
    m_MOST_REPEATED := ⟨_, PySem.W.mg_of X G m_MOST_REPEATED, ⟨t_MOST_REPEATED, rfl⟩⟩
    d__law_numbers := df_mk X G (fun _ _ _ _ _ _ us hl => match us, hl with | [_], _ => rfl) a1 l1 c1 k1
    d__law_draw := df_mk X G (fun _ _ _ _ _ _ us hl => match us, hl with | [_, _, _], _ => rfl) a2 l2 c2 k2
    d__law_take := df_mk X G (fun _ _ _ _ _ _ us hl => match us, hl with | [_, _, _], _ => rfl) a3 l3 c3 k3
    d__law_wide := df_mk X G (fun _ _ _ _ _ _ us hl => match us, hl with | [_, _, _], _ => rfl) a4 l4 c4 k4
    d__law_time := df_mk X G (fun _ _ _ _ _ _ us hl => match us, hl with | [_, _, _], _ => rfl) a5 l5 c5 k5
    d__law_task := df_mk X G (fun _ _ _ _ _ _ us hl => match us, hl with | [_, _, _], _ => rfl) a6 l6 c6 k6
    d__law_mixed := df_mk X G (fun _ _ _ _ _ _ us hl => match us, hl with | [_, _, _], _ => rfl) a7 l7 c7 k7
    d__law_pairs_of := df_mk X G (fun _ _ _ _ _ _ us hl => match us, hl with | [_, _, _, _], _ => rfl) a8 l8 c8 k8
    d__law_model := df_mk X G (fun _ _ _ _ _ _ us hl => match us, hl with | [_, _, _], _ => rfl) a9 l9 c9 k9
    d__law_states := df_mk X G (fun _ _ _ _ _ _ us hl => match us, hl with | [_, _, _, _, _], _ => rfl) a10 l10 c10 k10
    d__law_line := df_mk X G (fun _ _ _ _ _ _ us hl => match us, hl with | [_, _, _, _, _, _], _ => rfl) a11 l11 c11 k11
    d__law_case := df_mk X G (fun _ _ _ _ _ _ us hl => match us, hl with | [_, _], _ => rfl) a12 l12 c12 k12
    d__law_loose := df_mk X G (fun _ _ _ _ _ _ us hl => match us, hl with | [_, _], _ => rfl) a13 l13 c13 k13
    d_is_sequence := df_mk X G (fun _ _ _ _ _ _ us hl => match us, hl with | [_], _ => rfl) a14 l14 c14 k14
    d_has_length := df_mk X G (fun _ _ _ _ _ _ us hl => match us, hl with | [_, _, _], _ => rfl) a15 l15 c15 k15
    d_is_integer := df_mk X G (fun _ _ _ _ _ _ us hl => match us, hl with | [_], _ => rfl) a16 l16 c16 k16
    d_is_within := df_mk X G (fun _ _ _ _ _ _ us hl => match us, hl with | [_, _, _], _ => rfl) a17 l17 c17 k17
    d_is_task := df_mk X G (fun _ _ _ _ _ _ us hl => match us, hl with | [_], _ => rfl) a18 l18 c18 k18
    d_checked_tasks := df_mk X G (fun _ _ _ _ _ _ us hl => match us, hl with | [_], _ => rfl) a19 l19 c19 k19
    d_are_within := df_mk X G (fun _ _ _ _ _ _ us hl => match us, hl with | [_, _, _], _ => rfl) a20 l20 c20 k20
    d_is_pair := df_mk X G (fun _ _ _ _ _ _ us hl => match us, hl with | [_, _], _ => rfl) a21 l21 c21 k21
    d_put_behind := df_mk X G (fun _ _ _ _ _ _ us hl => match us, hl with | [_, _, _], _ => rfl) a22 l22 c22 k22
    d_checked_order := df_mk X G (fun _ _ _ _ _ _ us hl => match us, hl with | [_, _], _ => rfl) a23 l23 c23 k23
    d_is_ascending := df_mk X G (fun _ _ _ _ _ _ us hl => match us, hl with | [_, _], _ => rfl) a24 l24 c24 k24
    d_checked_models := df_mk X G (fun _ _ _ _ _ _ us hl => match us, hl with | [_, _], _ => rfl) a25 l25 c25 k25
    d_is_arc := df_mk X G (fun _ _ _ _ _ _ us hl => match us, hl with | [_, _, _], _ => rfl) a26 l26 c26 k26
    d_is_state := df_mk X G (fun _ _ _ _ _ _ us hl => match us, hl with | [_, _, _], _ => rfl) a27 l27 c27 k27
    d_checked_states := df_mk X G (fun _ _ _ _ _ _ us hl => match us, hl with | [_, _], _ => rfl) a28 l28 c28 k28
    d_is_slips := df_mk X G (fun _ _ _ _ _ _ us hl => match us, hl with | [_], _ => rfl) a29 l29 c29 k29
    d__law_made := df_mk X G (fun _ _ _ _ _ _ us hl => match us, hl with | [_, _], _ => rfl) a30 l30 c30 k30
    d_with_slips := df_mk X G (fun _ _ _ _ _ _ us hl => match us, hl with | [_, _], _ => rfl) a31 l31 c31 k31
    d_with_times := df_mk X G (fun _ _ _ _ _ _ us hl => match us, hl with | [_, _], _ => rfl) a32 l32 c32 k32
    d_repeated := df_mk X G (fun _ _ _ _ _ _ us hl => match us, hl with | [_, _], _ => rfl) a33 l33 c33 k33
    d__law_made_fault := df_mk X G (fun _ _ _ _ _ _ us hl => match us, hl with | [_, _, _, _, _], _ => rfl) a34 l34 c34 k34
    d__law_set := df_mk X G (fun _ _ _ _ _ _ us hl => match us, hl with | [_, _, _], _ => rfl) a35 l35 c35 k35
    g_BadValue := PySem.W.mg_of X G aXBadValue
    e_BadValue := ⟨by decide, _, _, EBadValue⟩
    t_BadValue := ⟨_, _, EBadValue⟩
    g_TooMany := PySem.W.mg_of X G aXTooMany
    e_TooMany := ⟨by decide, _, _, ETooMany⟩
    t_TooMany := ⟨_, _, ETooMany⟩
    g_BadTask := PySem.W.mg_of X G aXBadTask
    e_BadTask := ⟨by decide, _, _, EBadTask⟩
    t_BadTask := ⟨_, _, EBadTask⟩
    g_BadPair := PySem.W.mg_of X G aXBadPair
    e_BadPair := ⟨by decide, _, _, EBadPair⟩
    t_BadPair := ⟨_, _, EBadPair⟩
    g_BadModel := PySem.W.mg_of X G aXBadModel
    e_BadModel := ⟨by decide, _, _, EBadModel⟩
    t_BadModel := ⟨_, _, EBadModel⟩
    g_BadState := PySem.W.mg_of X G aXBadState
    e_BadState := ⟨by decide, _, _, EBadState⟩
    t_BadState := ⟨_, _, EBadState⟩
    ex := EX
    cl_Line := ⟨pg, hd, po, sa⟩
    f__tasks := fun c hc => by
      rw [List.mem_singleton.mp hc]
      exact ⟨⟨pg, hd, po, sa⟩, n_tasks⟩
    p_tasks := ⟨pPtasks, fPtasks, _, ⟨atPtasks, gePtasks, taPtasks, ⟨rPtasks, rePtasks⟩⟩, fun_mk (st := s_Line_tasks) lPtasks cPtasks kPtasks, (fun_mk (st := s_Line_tasks) lPtasks cPtasks kPtasks).binds (ps := ["self"]) (fun _ _ _ _ _ _ us hl => match us, hl with | [_], _ => rfl)⟩
    f__order := fun c hc => by
      rw [List.mem_singleton.mp hc]
      exact ⟨⟨pg, hd, po, sa⟩, n_order⟩
    p_order := ⟨pPorder, fPorder, _, ⟨atPorder, gePorder, taPorder, ⟨rPorder, rePorder⟩⟩, fun_mk (st := s_Line_order) lPorder cPorder kPorder, (fun_mk (st := s_Line_order) lPorder cPorder kPorder).binds (ps := ["self"]) (fun _ _ _ _ _ _ us hl => match us, hl with | [_], _ => rfl)⟩
    f__models := fun c hc => by
      rw [List.mem_singleton.mp hc]
      exact ⟨⟨pg, hd, po, sa⟩, n_models⟩
    p_models := ⟨pPmodels, fPmodels, _, ⟨atPmodels, gePmodels, taPmodels, ⟨rPmodels, rePmodels⟩⟩, fun_mk (st := s_Line_models) lPmodels cPmodels kPmodels, (fun_mk (st := s_Line_models) lPmodels cPmodels kPmodels).binds (ps := ["self"]) (fun _ _ _ _ _ _ us hl => match us, hl with | [_], _ => rfl)⟩
    f__states := fun c hc => by
      rw [List.mem_singleton.mp hc]
      exact ⟨⟨pg, hd, po, sa⟩, n_states⟩
    p_states := ⟨pPstates, fPstates, _, ⟨atPstates, gePstates, taPstates, ⟨rPstates, rePstates⟩⟩, fun_mk (st := s_Line_states) lPstates cPstates kPstates, (fun_mk (st := s_Line_states) lPstates cPstates kPstates).binds (ps := ["self"]) (fun _ _ _ _ _ _ us hl => match us, hl with | [_], _ => rfl)⟩
    f__start := fun c hc => by
      rw [List.mem_singleton.mp hc]
      exact ⟨⟨pg, hd, po, sa⟩, n_start⟩
    p_start := ⟨pPstart, fPstart, _, ⟨atPstart, gePstart, taPstart, ⟨rPstart, rePstart⟩⟩, fun_mk (st := s_Line_start) lPstart cPstart kPstart, (fun_mk (st := s_Line_start) lPstart cPstart kPstart).binds (ps := ["self"]) (fun _ _ _ _ _ _ us hl => match us, hl with | [_], _ => rfl)⟩
    f__slips := fun c hc => by
      rw [List.mem_singleton.mp hc]
      exact ⟨⟨pg, hd, po, sa⟩, n_slips⟩
    p_slips := ⟨pPslips, fPslips, _, ⟨atPslips, gePslips, taPslips, ⟨rPslips, rePslips⟩⟩, fun_mk (st := s_Line_slips) lPslips cPslips kPslips, (fun_mk (st := s_Line_slips) lPslips cPslips kPslips).binds (ps := ["self"]) (fun _ _ _ _ _ _ us hl => match us, hl with | [_], _ => rfl)⟩
    g_Line := PySem.W.mg_of X G aC
    i_Line := ⟨fI, _, ⟨mkC, iC, isI, kC⟩, ⟨⟨ocI, odI, .none, .ref DI, dcI, pmI, anI, cdI, ctI, slI, rfl, lI, cI, .inl ⟨rfl, rfl⟩, .inr ⟨DI, rfl, fun q hq => by rw [List.mem_singleton.mp hq]; exact ⟨_, sI, ⟨tI, rfl⟩⟩⟩⟩, kI⟩⟩
    i_free_line := ⟨fKfree_line, _, ⟨⟨ocKfree_line, odKfree_line, .none, .ref DKfree_line, dcKfree_line, pmKfree_line, anKfree_line, cdKfree_line, ctKfree_line, slKfree_line, rfl, lKfree_line, cKfree_line, .inl ⟨rfl, rfl⟩, .inr ⟨DKfree_line, rfl, fun q hq => by rw [List.mem_singleton.mp hq]; exact ⟨_, sKfree_line, ⟨tKfree_line, rfl⟩⟩⟩⟩, kKfree_line⟩, PySem.W.mg_of X G aKfree_line⟩ }
  have e := hfa.symm.trans (PySem.W.mg_of X G aL)
  cases e
  have FL := fun_mk (st := s_law) lL cL kL
  exact ⟨_, fun s v => .of_eq rfl, fun base _ _ => fn_law T FL hA⟩
end Mr
open PySem PySem.W PyProof.Rows
set_option maxHeartbeats 0 in
theorem PySem.Challenge.cw_anyrowline_k06_refusals_of_made_lines_holds : PySem.Challenge.rw_anyrowline_k06_refusals_of_made_lines.Holds := by
  w_on; o_law; k_head; (case hw => w_witness2)
  k_fill
  refine L2.walk_of (l := PySem.Challenge.rw_anyrowline_k06_refusals_of_made_lines) (n := 63) (k := 10) (x := "script") (CX := fun w => L2.CX (PySem.Challenge.rw_anyrowline_k06_refusals_of_made_lines).prog w) (sp := fun w => Mr.spLaw _) rfl (by decide) rfl ⟨rfl, by decide, by decide⟩ (fun w h Y => PySem.W.kIn_of Y) ?F (fun _ _ a ns hl _ hS => ⟨a, ns, rfl, hS, hl, fun _ => rfl⟩) (fun _ _ _ _ _ h => Mr.cx_false h)
  case F =>
    intro w mg fa h KX G hmg
    refine' Mr.all_mk KX G hmg Mr.law_true ?z_range ?z_int ?z_len ?z_min ?z_list ?z_max ?z_tuple ?z_isinstance ?z_bool ?z_enumerate ?z_all ?m_MOST_TIME ?m_MOST_TASKS ?m_MOST_PAIRS ?m_MOST_MODELS ?m_MOST_ARCS ?m_MOST_STATES ?m_MOST_SLIPS ?m_MOST_REPEATED ?a1 ?l1 ?c1 ?k1 ?a2 ?l2 ?c2 ?k2 ?a3 ?l3 ?c3 ?k3 ?a4 ?l4 ?c4 ?k4 ?a5 ?l5 ?c5 ?k5 ?a6 ?l6 ?c6 ?k6 ?a7 ?l7 ?c7 ?k7 ?a8 ?l8 ?c8 ?k8 ?a9 ?l9 ?c9 ?k9 ?a10 ?l10 ?c10 ?k10 ?a11 ?l11 ?c11 ?k11 ?a12 ?l12 ?c12 ?k12 ?a13 ?l13 ?c13 ?k13 ?a14 ?l14 ?c14 ?k14 ?a15 ?l15 ?c15 ?k15 ?a16 ?l16 ?c16 ?k16 ?a17 ?l17 ?c17 ?k17 ?a18 ?l18 ?c18 ?k18 ?a19 ?l19 ?c19 ?k19 ?a20 ?l20 ?c20 ?k20 ?a21 ?l21 ?c21 ?k21 ?a22 ?l22 ?c22 ?k22 ?a23 ?l23 ?c23 ?k23 ?a24 ?l24 ?c24 ?k24 ?a25 ?l25 ?c25 ?k25 ?a26 ?l26 ?c26 ?k26 ?a27 ?l27 ?c27 ?k27 ?a28 ?l28 ?c28 ?k28 ?a29 ?l29 ?c29 ?k29 ?a30 ?l30 ?c30 ?k30 ?a31 ?l31 ?c31 ?k31 ?a32 ?l32 ?c32 ?k32 ?a33 ?l33 ?c33 ?k33 ?a34 ?l34 ?c34 ?k34 ?a35 ?l35 ?c35 ?k35 ?aXBadValue ?inXBadValue ?ovXBadValue ?saXBadValue ?gaXBadValue ?ggXBadValue ?nnXBadValue ?tkXBadValue ?iCXBadValue ?tCXBadValue ?kCXBadValue ?eCXBadValue ?tyXBadValue ?hdXBadValue ?isXBadValue ?suXBadValue ?lXBadValue ?cXBadValue ?aXTooMany ?inXTooMany ?ovXTooMany ?saXTooMany ?gaXTooMany ?ggXTooMany ?nnXTooMany ?tkXTooMany ?iCXTooMany ?tCXTooMany ?kCXTooMany ?eCXTooMany ?tyXTooMany ?hdXTooMany ?isXTooMany ?suXTooMany ?lXTooMany ?cXTooMany ?aXBadTask ?inXBadTask ?ovXBadTask ?saXBadTask ?gaXBadTask ?ggXBadTask ?nnXBadTask ?tkXBadTask ?iCXBadTask ?tCXBadTask ?kCXBadTask ?eCXBadTask ?tyXBadTask ?hdXBadTask ?isXBadTask ?suXBadTask ?lXBadTask ?cXBadTask ?aXBadPair ?inXBadPair ?ovXBadPair ?saXBadPair ?gaXBadPair ?ggXBadPair ?nnXBadPair ?tkXBadPair ?iCXBadPair ?tCXBadPair ?kCXBadPair ?eCXBadPair ?tyXBadPair ?hdXBadPair ?isXBadPair ?suXBadPair ?lXBadPair ?cXBadPair ?aXBadModel ?inXBadModel ?ovXBadModel ?saXBadModel ?gaXBadModel ?ggXBadModel ?nnXBadModel ?tkXBadModel ?iCXBadModel ?tCXBadModel ?kCXBadModel ?eCXBadModel ?tyXBadModel ?hdXBadModel ?isXBadModel ?suXBadModel ?lXBadModel ?cXBadModel ?aXBadState ?inXBadState ?ovXBadState ?saXBadState ?gaXBadState ?ggXBadState ?nnXBadState ?tkXBadState ?iCXBadState ?tCXBadState ?kCXBadState ?eCXBadState ?tyXBadState ?hdXBadState ?isXBadState ?suXBadState ?lXBadState ?cXBadState ?aC ?pg ?hd ?po ?sa ?n_tasks ?atPtasks ?gePtasks ?taPtasks ?rePtasks ?lPtasks ?cPtasks ?kPtasks ?n_order ?atPorder ?gePorder ?taPorder ?rePorder ?lPorder ?cPorder ?kPorder ?n_models ?atPmodels ?gePmodels ?taPmodels ?rePmodels ?lPmodels ?cPmodels ?kPmodels ?n_states ?atPstates ?gePstates ?taPstates ?rePstates ?lPstates ?cPstates ?kPstates ?n_start ?atPstart ?gePstart ?taPstart ?rePstart ?lPstart ?cPstart ?kPstart ?n_slips ?atPslips ?gePslips ?taPslips ?rePslips ?lPslips ?cPslips ?kPslips ?mkC ?iC ?isI ?kC ?lI ?cI ?kI ?sI ?aKfree_line ?lKfree_line ?cKfree_line ?kKfree_line ?sKfree_line ?noXBadValue_TooMany ?noXBadValue_BadTask ?noXBadValue_BadPair ?noXBadValue_BadModel ?noXBadValue_BadState ?noXTooMany_BadValue ?noXTooMany_BadTask ?noXTooMany_BadPair ?noXTooMany_BadModel ?noXTooMany_BadState ?noXBadTask_BadValue ?noXBadTask_TooMany ?noXBadTask_BadPair ?noXBadTask_BadModel ?noXBadTask_BadState ?noXBadPair_BadValue ?noXBadPair_TooMany ?noXBadPair_BadTask ?noXBadPair_BadModel ?noXBadPair_BadState ?noXBadModel_BadValue ?noXBadModel_TooMany ?noXBadModel_BadTask ?noXBadModel_BadPair ?noXBadModel_BadState ?noXBadState_BadValue ?noXBadState_TooMany ?noXBadState_BadTask ?noXBadState_BadPair ?noXBadState_BadModel ?aL ?lL ?cL ?kL
    (case z_range => k_is); (case z_int => k_is); (case z_len => k_is); (case z_min => k_is); (case z_list => k_is); (case z_max => k_is); (case z_tuple => k_is); (case z_isinstance => k_is)
    (case z_bool => k_is); (case z_enumerate => k_is); (case z_all => k_is); (case m_MOST_TIME => k_is); (case m_MOST_TASKS => k_is); (case m_MOST_PAIRS => k_is); (case m_MOST_MODELS => k_is); (case m_MOST_ARCS => k_is)
    (case m_MOST_STATES => k_is); (case m_MOST_SLIPS => k_is); (case m_MOST_REPEATED => k_is); (case a1 => k_is); (case l1 => k_is); (case c1 => k_is); (case k1 => k_is); (case a2 => k_is)
    (case l2 => k_is); (case c2 => k_is); (case k2 => k_is); (case a3 => k_is); (case l3 => k_is); (case c3 => k_is); (case k3 => k_is); (case a4 => k_is)
    (case l4 => k_is); (case c4 => k_is); (case k4 => k_is); (case a5 => k_is); (case l5 => k_is); (case c5 => k_is); (case k5 => k_is); (case a6 => k_is)
    (case l6 => k_is); (case c6 => k_is); (case k6 => k_is); (case a7 => k_is); (case l7 => k_is); (case c7 => k_is); (case k7 => k_is); (case a8 => k_is)
    (case l8 => k_is); (case c8 => k_is); (case k8 => k_is); (case a9 => k_is); (case l9 => k_is); (case c9 => k_is); (case k9 => k_is); (case a10 => k_is)
    (case l10 => k_is); (case c10 => k_is); (case k10 => k_is); (case a11 => k_is); (case l11 => k_is); (case c11 => k_is); (case k11 => k_is); (case a12 => k_is)
    (case l12 => k_is); (case c12 => k_is); (case k12 => k_is); (case a13 => k_is); (case l13 => k_is); (case c13 => k_is); (case k13 => k_is); (case a14 => k_is)
    (case l14 => k_is); (case c14 => k_is); (case k14 => k_is); (case a15 => k_is); (case l15 => k_is); (case c15 => k_is); (case k15 => k_is); (case a16 => k_is)
    (case l16 => k_is); (case c16 => k_is); (case k16 => k_is); (case a17 => k_is); (case l17 => k_is); (case c17 => k_is); (case k17 => k_is); (case a18 => k_is)
    (case l18 => k_is); (case c18 => k_is); (case k18 => k_is); (case a19 => k_is); (case l19 => k_is); (case c19 => k_is); (case k19 => k_is); (case a20 => k_is)
    (case l20 => k_is); (case c20 => k_is); (case k20 => k_is); (case a21 => k_is); (case l21 => k_is); (case c21 => k_is); (case k21 => k_is); (case a22 => k_is)
    (case l22 => k_is); (case c22 => k_is); (case k22 => k_is); (case a23 => k_is); (case l23 => k_is); (case c23 => k_is); (case k23 => k_is); (case a24 => k_is)
    (case l24 => k_is); (case c24 => k_is); (case k24 => k_is); (case a25 => k_is); (case l25 => k_is); (case c25 => k_is); (case k25 => k_is); (case a26 => k_is)
    (case l26 => k_is); (case c26 => k_is); (case k26 => k_is); (case a27 => k_is); (case l27 => k_is); (case c27 => k_is); (case k27 => k_is); (case a28 => k_is)
    (case l28 => k_is); (case c28 => k_is); (case k28 => k_is); (case a29 => k_is); (case l29 => k_is); (case c29 => k_is); (case k29 => k_is); (case a30 => k_is)
    (case l30 => k_is); (case c30 => k_is); (case k30 => k_is); (case a31 => k_is); (case l31 => k_is); (case c31 => k_is); (case k31 => k_is); (case a32 => k_is)
    (case l32 => k_is); (case c32 => k_is); (case k32 => k_is); (case a33 => k_is); (case l33 => k_is); (case c33 => k_is); (case k33 => k_is); (case a34 => k_is)
    (case l34 => k_is); (case c34 => k_is); (case k34 => k_is); (case a35 => k_is); (case l35 => k_is); (case c35 => k_is); (case k35 => k_is); (case aXBadValue => k_is)
    (case inXBadValue => kx_is); (case ovXBadValue => kx_is); (case saXBadValue => k_is); (case gaXBadValue => k_is); (case ggXBadValue => k_is); (case nnXBadValue => k_is); (case tkXBadValue => k_is); (case iCXBadValue => k_is)
    (case tCXBadValue => k_is); (case kCXBadValue => k_is); (case eCXBadValue => k_is); (case tyXBadValue => k_is); (case hdXBadValue => k_is); (case isXBadValue => k_is); (case suXBadValue => first | rfl | k_is); (case lXBadValue => k_is)
    (case cXBadValue => k_is); (case aXTooMany => k_is); (case inXTooMany => kx_is); (case ovXTooMany => kx_is); (case saXTooMany => k_is); (case gaXTooMany => k_is); (case ggXTooMany => k_is); (case nnXTooMany => k_is)
    (case tkXTooMany => k_is); (case iCXTooMany => k_is); (case tCXTooMany => k_is); (case kCXTooMany => k_is); (case eCXTooMany => k_is); (case tyXTooMany => k_is); (case hdXTooMany => k_is); (case isXTooMany => k_is)
    (case suXTooMany => first | rfl | k_is); (case lXTooMany => k_is); (case cXTooMany => k_is); (case aXBadTask => k_is); (case inXBadTask => kx_is); (case ovXBadTask => kx_is); (case saXBadTask => k_is); (case gaXBadTask => k_is)
    (case ggXBadTask => k_is); (case nnXBadTask => k_is); (case tkXBadTask => k_is); (case iCXBadTask => k_is); (case tCXBadTask => k_is); (case kCXBadTask => k_is); (case eCXBadTask => k_is); (case tyXBadTask => k_is)
    (case hdXBadTask => k_is); (case isXBadTask => k_is); (case suXBadTask => first | rfl | k_is); (case lXBadTask => k_is); (case cXBadTask => k_is); (case aXBadPair => k_is); (case inXBadPair => kx_is); (case ovXBadPair => kx_is)
    (case saXBadPair => k_is); (case gaXBadPair => k_is); (case ggXBadPair => k_is); (case nnXBadPair => k_is); (case tkXBadPair => k_is); (case iCXBadPair => k_is); (case tCXBadPair => k_is); (case kCXBadPair => k_is)
    (case eCXBadPair => k_is); (case tyXBadPair => k_is); (case hdXBadPair => k_is); (case isXBadPair => k_is); (case suXBadPair => first | rfl | k_is); (case lXBadPair => k_is); (case cXBadPair => k_is); (case aXBadModel => k_is)
    (case inXBadModel => kx_is); (case ovXBadModel => kx_is); (case saXBadModel => k_is); (case gaXBadModel => k_is); (case ggXBadModel => k_is); (case nnXBadModel => k_is); (case tkXBadModel => k_is); (case iCXBadModel => k_is)
    (case tCXBadModel => k_is); (case kCXBadModel => k_is); (case eCXBadModel => k_is); (case tyXBadModel => k_is); (case hdXBadModel => k_is); (case isXBadModel => k_is); (case suXBadModel => first | rfl | k_is); (case lXBadModel => k_is)
    (case cXBadModel => k_is); (case aXBadState => k_is); (case inXBadState => kx_is); (case ovXBadState => kx_is); (case saXBadState => k_is); (case gaXBadState => k_is); (case ggXBadState => k_is); (case nnXBadState => k_is)
    (case tkXBadState => k_is); (case iCXBadState => k_is); (case tCXBadState => k_is); (case kCXBadState => k_is); (case eCXBadState => k_is); (case tyXBadState => k_is); (case hdXBadState => k_is); (case isXBadState => k_is)
    (case suXBadState => first | rfl | k_is); (case lXBadState => k_is); (case cXBadState => k_is); (case aC => k_is); (case pg => k_is); (case hd => k_is); (case po => k_is); (case sa => k_is)
    (case n_tasks => k_is); (case atPtasks => k_is); (case gePtasks => k_is); (case taPtasks => k_is); (case rePtasks => k_is); (case lPtasks => k_is); (case cPtasks => k_is); (case kPtasks => k_is)
    (case n_order => k_is); (case atPorder => k_is); (case gePorder => k_is); (case taPorder => k_is); (case rePorder => k_is); (case lPorder => k_is); (case cPorder => k_is); (case kPorder => k_is)
    (case n_models => k_is); (case atPmodels => k_is); (case gePmodels => k_is); (case taPmodels => k_is); (case rePmodels => k_is); (case lPmodels => k_is); (case cPmodels => k_is); (case kPmodels => k_is)
    (case n_states => k_is); (case atPstates => k_is); (case gePstates => k_is); (case taPstates => k_is); (case rePstates => k_is); (case lPstates => k_is); (case cPstates => k_is); (case kPstates => k_is)
    (case n_start => k_is); (case atPstart => k_is); (case gePstart => k_is); (case taPstart => k_is); (case rePstart => k_is); (case lPstart => k_is); (case cPstart => k_is); (case kPstart => k_is)
    (case n_slips => k_is); (case atPslips => k_is); (case gePslips => k_is); (case taPslips => k_is); (case rePslips => k_is); (case lPslips => k_is); (case cPslips => k_is); (case kPslips => k_is)
    (case mkC => k_is); (case iC => k_is); (case isI => k_is); (case kC => k_is); (case lI => k_is); (case cI => k_is); (case kI => k_is); (case sI => k_is)
    (case aKfree_line => k_is); (case lKfree_line => k_is); (case cKfree_line => k_is); (case kKfree_line => k_is); (case sKfree_line => k_is); (case noXBadValue_TooMany => first | rfl | k_is); (case noXBadValue_BadTask => first | rfl | k_is); (case noXBadValue_BadPair => first | rfl | k_is)
    (case noXBadValue_BadModel => first | rfl | k_is); (case noXBadValue_BadState => first | rfl | k_is); (case noXTooMany_BadValue => first | rfl | k_is); (case noXTooMany_BadTask => first | rfl | k_is); (case noXTooMany_BadPair => first | rfl | k_is); (case noXTooMany_BadModel => first | rfl | k_is); (case noXTooMany_BadState => first | rfl | k_is); (case noXBadTask_BadValue => first | rfl | k_is)
    (case noXBadTask_TooMany => first | rfl | k_is); (case noXBadTask_BadPair => first | rfl | k_is); (case noXBadTask_BadModel => first | rfl | k_is); (case noXBadTask_BadState => first | rfl | k_is); (case noXBadPair_BadValue => first | rfl | k_is); (case noXBadPair_TooMany => first | rfl | k_is); (case noXBadPair_BadTask => first | rfl | k_is); (case noXBadPair_BadModel => first | rfl | k_is)
    (case noXBadPair_BadState => first | rfl | k_is); (case noXBadModel_BadValue => first | rfl | k_is); (case noXBadModel_TooMany => first | rfl | k_is); (case noXBadModel_BadTask => first | rfl | k_is); (case noXBadModel_BadPair => first | rfl | k_is); (case noXBadModel_BadState => first | rfl | k_is); (case noXBadState_BadValue => first | rfl | k_is); (case noXBadState_TooMany => first | rfl | k_is)
    (case noXBadState_BadTask => first | rfl | k_is); (case noXBadState_BadPair => first | rfl | k_is); (case noXBadState_BadModel => first | rfl | k_is); (case aL => k_is); (case lL => k_is); (case cL => k_is); (case kL => k_is)
