/- Parts of the proof, together. The parser's functions answer at whatever tokens, with fuel enough: what they answer goes forward, keeps the depth, has nodes whose kids lie ahead. Conditions: the last token alone is the end; not too many tokens. -/
import Derived.Test.YtpjjofdphlgeiaaGreatDoorVvao
namespace Go.Proofs.YtpjjofdphlgeiaaGreatDoor
namespace Px
open Lx Ax

/-- Each node's kids lie ahead of it. -/
def Back (l : List Nd) : Prop := ∀ (j : Nat) x, l[j]? = some x → ∀ k ∈ x.kids, 0 ≤ k ∧ k < (j : Int)
theorem Back.nil : Back [] := fun j x h => by simp at h
theorem Back.add {l : List Nd} (h : Back l) (x : Nd) (hx : ∀ k ∈ x.kids, 0 ≤ k ∧ k < (l.length : Int)) : Back (l ++ [x]) := by
  intro j y hy k hk
  by_cases hj : j < l.length
  · rw [List.getElem?_append_left hj] at hy
    exact h j y hy k hk
  · have h1 := (List.getElem?_eq_some_iff.1 hy).1
    simp at h1
    obtain rfl : j = l.length := by omega
    rw [List.getElem?_append_right (Nat.le_refl _), Nat.sub_self] at hy
    obtain rfl : x = y := by simpa using hy
    exact hx k hk
theorem allT_some {f : Int → Option Bool} : ∀ {ks : List Int}, (∀ k ∈ ks, ∃ b, f k = some b) → ∃ b, allT f ks = some b
  | [], _ => ⟨true, rfl⟩
  | k :: r, h => by
    obtain ⟨b, hb⟩ := h k (List.mem_cons_self ..)
    unfold allT
    rw [hb]
    cases b with
    | false => exact ⟨false, rfl⟩
    | true => exact allT_some fun j hj => h j (List.mem_cons_of_mem _ hj)
theorem targetF_some {l : List Nd} (h : Back l) : ∀ (n : Nat) (z : Int), 0 ≤ z → z < (l.length : Int) → z < (n : Int) → ∃ b, targetF n l z = some b
  | 0, z, h0, _, h2 => absurd h2 (by omega)
  | n + 1, z, h0, h1, h2 => by
    obtain ⟨k, rfl⟩ := Int.eq_ofNat_of_zero_le h0
    have hk : k < l.length := by omega
    unfold targetF
    rw [if_neg (by omega), Int.toNat_natCast, List.getElem?_eq_getElem hk]
    dsimp only
    split
    · exact ⟨true, rfl⟩
    · split
      · refine allT_some fun j hj => ?_
        obtain ⟨a, b⟩ := h k _ (List.getElem?_eq_getElem hk) j hj
        exact targetF_some h n j a (by omega) (by omega)
      · exact ⟨false, rfl⟩
/-- How long the texts are, together. -/
def sumT : List Tok → Nat
  | [] => 0
  | t :: l => t.text.length + sumT l
theorem sumT_take {ts : List Tok} {j : Nat} {t : Tok} (h : ts[j]? = some t) : sumT (ts.take (j + 1)) = sumT (ts.take j) + t.text.length := by
  induction ts generalizing j with
  | nil => simp at h
  | cons a l ih =>
    cases j with
    | zero =>
      obtain rfl : a = t := by simpa using h
      simp [sumT]
    | succ j =>
      have := ih (j := j) (by simpa using h)
      simp only [List.take_succ_cons, sumT]
      omega
theorem sumT_take_le (ts : List Tok) (j : Nat) : sumT (ts.take j) ≤ sumT ts := by
  induction ts generalizing j with
  | nil => simp [sumT]
  | cons a l ih =>
    cases j with
    | zero => simp [sumT]
    | succ j => have := ih j; simp only [List.take_succ_cons, sumT]; omega
theorem sumT_mono (ts : List Tok) {i j : Nat} (h : i ≤ j) : sumT (ts.take i) ≤ sumT (ts.take j) := by
  have := sumT_take_le (ts.take j) i
  rwa [List.take_take, Nat.min_eq_left h] at this
/-- Tokens as the scanner leaves them. -/
structure Tk (ts : List Tok) : Prop where
  pos : 0 < ts.length
  few : ts.length ≤ 50000
  last : ∀ (j : Nat) t, ts[j]? = some t → (j + 1 = ts.length ↔ t.kind = 8)
  text : sumT ts ≤ 100000
def Ok (P : Int → List Int → Bool → PS → Prop) : R → Prop
  | .stuck => False
  | .bad _ _ => True
  | .ok z zs c s => P z zs c s
def Valid (m : Nat) (zs : List Int) : Prop := ∀ k ∈ zs, 0 ≤ k ∧ k < (m : Int)
theorem Valid.mono {m m' : Nat} {zs : List Int} (h : Valid m zs) (hm : m ≤ m') : Valid m' zs := fun k hk => ⟨(h k hk).1, by have := (h k hk).2; omega⟩
theorem Valid.nil (m : Nat) : Valid m [] := fun _ h => absurd h (by simp)
theorem Valid.one {m : Nat} {z : Int} (h : 0 ≤ z ∧ z < (m : Int)) : Valid m [z] := fun k hk => (by simpa using hk : k = z) ▸ h
theorem Valid.cons {m : Nat} {z : Int} {zs : List Int} (h : 0 ≤ z ∧ z < (m : Int)) (hz : Valid m zs) : Valid m (z :: zs) := fun k hk => by
  rcases List.mem_cons.1 hk with rfl | hk
  · exact h
  · exact hz k hk
theorem Valid.append {m : Nat} {xs ys : List Int} (h : Valid m xs) (h2 : Valid m ys) : Valid m (xs ++ ys) := fun k hk => (List.mem_append.1 hk).elim (h k) (h2 k)
section
variable {ts : List Tok} {s : PS} {Q : Int → List Int → Bool → PS → Prop}
theorem Ok.mono {P : Int → List Int → Bool → PS → Prop} {r : R} (h : Ok P r) (hf : ∀ z zs c s, P z zs c s → Q z zs c s) : Ok Q r := by
  cases r with
  | stuck => exact h
  | bad => trivial
  | ok z zs c s => exact hf _ _ _ _ h
theorem Ok.bind {P : Int → List Int → Bool → PS → Prop} {r : R} {f : Int → List Int → Bool → PS → R} (h : Ok P r) (hf : ∀ z zs c s, P z zs c s → Ok Q (f z zs c s)) : Ok Q (r.bind f) := by
  cases r with
  | stuck => exact h
  | bad => trivial
  | ok z zs c s => exact hf _ _ _ _ h
theorem tk_at (hs : s.at_ < ts.length) : ∃ t, ts[s.at_]? = some t := ⟨_, List.getElem?_eq_getElem hs⟩
theorem Tk.sg_lt (T : Tk ts) {j : Nat} {t : Tok} (ht : ts[j]? = some t) {l : List UInt8} (h : sg t = l) (hl : l ≠ []) : j + 1 < ts.length := by
  have h1 := (List.getElem?_eq_some_iff.1 ht).1
  have h2 := T.last j t ht
  rcases Nat.lt_or_ge (j + 1) ts.length with h3 | h3
  · exact h3
  · have h8 := h2.1 (by omega)
    unfold sg at h
    rw [if_neg (by omega)] at h
    exact absurd h.symm hl
theorem Tk.kind_lt (T : Tk ts) {j : Nat} {t : Tok} (ht : ts[j]? = some t) (hk : t.kind ≠ 8) : j + 1 < ts.length := by
  have h1 := (List.getElem?_eq_some_iff.1 ht).1
  have h2 := T.last j t ht
  rcases Nat.lt_or_ge (j + 1) ts.length with h3 | h3
  · exact h3
  · exact absurd (h2.1 (by omega)) hk
theorem ok_sign (hs : s.at_ < ts.length) {f : List UInt8 → R} (H : ∀ t, ts[s.at_]? = some t → Ok Q (f (sg t))) : Ok Q (signF ts s f) := by
  obtain ⟨t, ht⟩ := tk_at hs
  unfold signF; rw [ht]; exact H t ht
theorem ok_kind (hs : s.at_ < ts.length) {f : Nat → R} (H : ∀ t, ts[s.at_]? = some t → Ok Q (f t.kind)) : Ok Q (kindF ts s f) := by
  obtain ⟨t, ht⟩ := tk_at hs
  unfold kindF; rw [ht]; exact H t ht
theorem ok_next (hs : s.at_ < ts.length) {f : Tok → PS → R} (H : ∀ t, ts[s.at_]? = some t → Ok Q (f t { s with at_ := s.at_ + 1 })) : Ok Q (nextF ts s f) := by
  obtain ⟨t, ht⟩ := tk_at hs
  unfold nextF; rw [ht]; exact H t ht
theorem ok_begins (hs : s.at_ < ts.length) {f : Bool → R} (H : ∀ b, Ok Q (f b)) : Ok Q (beginsF ts s f) := by
  obtain ⟨t, ht⟩ := tk_at hs
  unfold beginsF; rw [ht]; exact H _
theorem ok_rowB (hs : s.at_ < ts.length) (k : Nat) {f : Bool → R} (H : ∀ b, Ok Q (f b)) : Ok Q (rowBF ts k s f) := by
  obtain ⟨t, ht⟩ := tk_at hs
  unfold rowBF; rw [ht]; exact H _
theorem ok_allow (hs : s.at_ < ts.length) (b : Bool) {f : R} (H : b = true → Ok Q f) : Ok Q (allowF ts b s f) := by
  obtain ⟨t, ht⟩ := tk_at hs
  unfold allowF; rw [ht]; dsimp only
  split
  · rename_i h; exact H h
  · trivial
theorem bump {j : Nat} (hj : j < ts.length) (s : PS) (hs : s.at_ + 1 = j) (hb : Back s.nodes) : ∃ s', ({ s with at_ := s.at_ + 1 } : PS) = s' ∧ s'.at_ = s.at_ + 1 ∧ s'.at_ < ts.length ∧ s'.deep = s.deep ∧ s'.nodes.length = s.nodes.length ∧ Back s'.nodes := ⟨_, rfl, rfl, by dsimp only; omega, rfl, rfl, hb⟩
theorem ok_need (T : Tk ts) {l : List UInt8} (hl : l ≠ []) (hs : s.at_ < ts.length) (hb : Back s.nodes) {f : Int → PS → R} (H : ∀ pos s', s'.at_ = s.at_ + 1 → s'.at_ < ts.length → s'.deep = s.deep → s'.nodes.length = s.nodes.length → Back s'.nodes → Ok Q (f pos s')) : Ok Q (needF ts l s f) := by
  obtain ⟨t, ht⟩ := tk_at hs
  unfold needF; rw [ht]; dsimp only
  split
  · rename_i h
    exact H _ _ rfl (T.sg_lt ht h hl) rfl rfl hb
  · trivial
theorem ok_take (T : Tk ts) {k : Nat} (hk : k ≠ 8) (hs : s.at_ < ts.length) (hb : Back s.nodes) {f : Tok → PS → R} (H : ∀ t s', ts[s.at_]? = some t → s'.at_ = s.at_ + 1 → s'.at_ < ts.length → s'.deep = s.deep → s'.nodes.length = s.nodes.length → Back s'.nodes → Ok Q (f t s')) : Ok Q (takeKF ts k s f) := by
  obtain ⟨t, ht⟩ := tk_at hs
  unfold takeKF; rw [ht]; dsimp only
  split
  · rename_i h
    exact H _ _ ht rfl (T.kind_lt ht (by omega)) rfl rfl hb
  · trivial
theorem ok_enter (T : Tk ts) {l : List UInt8} (hl : l ≠ []) (hs : s.at_ < ts.length) (hd : s.deep ≤ 60) (hb : Back s.nodes) {f : Int → PS → R} (H : ∀ pos s', s'.at_ = s.at_ + 1 → s'.at_ < ts.length → s'.deep = s.deep + 1 → s'.deep ≤ 60 → s'.nodes.length = s.nodes.length → Back s'.nodes → Ok Q (f pos s')) : Ok Q (enterF ts l s f) := by
  unfold enterF
  refine ok_need T hl hs hb fun pos s' a c d l b => ?_
  split
  · trivial
  · exact H _ _ a c (by dsimp only; omega) (by dsimp only; omega) l b
theorem ok_leave (hd : 0 < s.deep) (hs : s.at_ < ts.length) (hb : Back s.nodes) {f : PS → R} (H : ∀ s', s'.at_ = s.at_ → s'.at_ < ts.length → s'.deep + 1 = s.deep → s'.nodes.length = s.nodes.length → Back s'.nodes → Ok Q (f s')) : Ok Q (leaveF s f) := by
  unfold leaveF
  rw [if_neg (by omega)]
  exact H _ rfl hs (by dsimp only; omega) rfl hb
theorem ok_shut (T : Tk ts) {l : List UInt8} (hl : l ≠ []) (hd : 0 < s.deep) (hs : s.at_ < ts.length) (hb : Back s.nodes) {f : PS → R} (H : ∀ s', s'.at_ = s.at_ + 1 → s'.at_ < ts.length → s'.deep + 1 = s.deep → s'.nodes.length = s.nodes.length → Back s'.nodes → Ok Q (f s')) : Ok Q (shutF ts l s f) := by
  unfold shutF
  refine ok_need T hl hs hb fun _ s2 a c d l b => ?_
  exact ok_leave (by omega) c b fun s3 a3 c3 d3 l3 b3 => H s3 (by omega) c3 (by omega) (by omega) b3
theorem ok_add (hs : s.at_ < ts.length) (hb : Back s.nodes) {op pos : Int} {tx : ByteArray} {kids : List Int} (hn : s.nodes.length < 900000) (hk : kids.length < 900000) (hv : Valid s.nodes.length kids) {f : Int → PS → R} (H : ∀ z s', s'.at_ = s.at_ → s'.at_ < ts.length → s'.deep = s.deep → s'.nodes.length = s.nodes.length + 1 → Back s'.nodes → z = (s.nodes.length : Int) → Ok Q (f z s')) : Ok Q (addF op pos tx kids s f) := by
  unfold addF
  rw [if_pos ⟨hn, hk⟩]
  exact H _ _ rfl hs rfl (by simp) (hb.add _ hv) rfl
theorem ok_one {z : Int} (h : Q z [] false s) : Ok Q (one z s) := h
theorem ok_pos {z : Int} (hz : 0 ≤ z ∧ z < (s.nodes.length : Int)) {f : Int → R} (H : ∀ p, Ok Q (f p)) : Ok Q (posF s z f) := by
  obtain ⟨k, rfl⟩ := Int.eq_ofNat_of_zero_le hz.1
  unfold posF
  rw [if_neg (by omega), Int.toNat_natCast, List.getElem?_eq_getElem (by omega)]
  exact H _
end
/-- How many tokens a part takes at least. -/
def prog : Q → Nat
  | .binLoop _ _ | .primLoop _ | .rowLoop _ _ _ | .orNone | .params _ _ _ | .args _ _ | .bound _ | .textsLoop _ _ | .pairs _ | .fileLoop _ | .linesLoop _ _ | .loadLoop _ | .file => 0
  | .pair _ => 3
  | .rounds => 4
  | _ => 1
/-- How many nodes a part has beyond four for each token. -/
def slack : Q → Nat
  | .bare _ | .bound _ | .cond _ _ | .textsLoop _ _ => 1
  | .assignment | .simple _ | .file => 2
  | _ => 0
def isNode : Q → Bool
  | .row _ | .rowLoop _ _ _ | .orNone | .params _ _ _ | .args _ _ | .rounds | .pairs _ | .pair _ | .fileLoop _ | .lines _ | .linesLoop _ _ | .loadLoop _ => false
  | _ => true
/-- .. answers a list that is not empty, but for a comma. -/
def full : Q → Bool
  | .row _ | .rowLoop _ _ _ | .orNone => true
  | _ => false
/-- .. answers a list that is not empty. -/
def sure : Q → Bool
  | .row _ | .rowLoop _ _ _ | .rounds | .lines _ | .linesLoop _ _ => true
  | _ => false
def rank : Q → Nat
  | .atom => 2 | .primary => 3 | .unary => 4 | .bin 0 => 10 | .bin 1 => 9 | .bin 2 => 6 | .bin _ => 5 | .compare => 7 | .not => 8 | .test => 11 | .target => 4
  | .row _ => 12 | .orNone => 13 | .bare _ => 14 | .assignment => 15 | .simple _ => 16 | .line _ => 17 | .statement _ => 18 | .linesLoop _ _ => 19 | .fileLoop _ => 19 | .file => 20
  | .bound _ => 12 | .argument _ => 12 | .args _ _ => 13 | .params _ _ _ => 2 | .pair _ => 12 | .pairs _ => 13 | .cond _ _ => 12 | .loaded => 0 | .textsLoop _ _ => 0 | .dot _ => 0 | .call _ => 0 | .index _ => 0
  | _ => 1
def Mz (ts : List Tok) (q : Q) (s : PS) : Nat := 64 * (ts.length - s.at_) + rank q
def ZV (s : PS) (z : Int) : Prop := 0 ≤ z ∧ z < (s.nodes.length : Int)
def LV (s : PS) (zs : List Int) : Prop := Valid s.nodes.length zs ∧ zs.length ≤ s.at_
/-- What is asked ahead of a part. -/
def Pre (ts : List Tok) : Q → PS → Prop
  | .alone, _ => False
  | .binLoop _ z, s | .primLoop z, s | .dot z, s | .call z, s | .index z, s => ZV s z
  | .rowLoop _ zs _, s | .linesLoop _ zs, s => LV s zs ∧ zs ≠ []
  | .args zs names, s | .params zs names _, s => LV s zs ∧ names.length ≤ s.at_
  | .pairs zs, s | .pair zs, s | .fileLoop zs, s | .loadLoop zs, s => LV s zs
  | .textsLoop _ acc, s => acc.length ≤ sumT (ts.take s.at_)
  | .texts, s => ∃ t, ts[s.at_]? = some t ∧ t.kind = 3
  | _, _ => True
structure Post (ts : List Tok) (q : Q) (s : PS) (z : Int) (zs : List Int) (c : Bool) (s' : PS) : Prop where
  at1 : s.at_ + prog q ≤ s'.at_
  at2 : s'.at_ < ts.length
  deep : s'.deep = s.deep
  back : Back s'.nodes
  len1 : s.nodes.length ≤ s'.nodes.length
  len2 : s'.nodes.length ≤ s.nodes.length + 4 * (s'.at_ - s.at_) + slack q
  node : isNode q = true → 0 ≤ z ∧ z < (s'.nodes.length : Int)
  kids : Valid s'.nodes.length zs
  few : zs.length ≤ s'.at_
  some : full q = true → c = false → zs ≠ []
  sure_ : sure q = true → zs ≠ []
def Tot (ts : List Tok) (n : Nat) : Prop := ∀ q s, s.at_ < ts.length → s.deep ≤ 60 → Back s.nodes → s.nodes.length ≤ 8 * s.at_ + 8 → Pre ts q s → Mz ts q s < n → Ok (Post ts q s) (runF ts n q s)
theorem ok_call {ts : List Tok} {n : Nat} (IH : Tot ts n) {q : Q} {s : PS} {Q' : Int → List Int → Bool → PS → Prop} (h1 : s.at_ < ts.length) (h2 : s.deep ≤ 60) (h3 : Back s.nodes) (h4 : s.nodes.length ≤ 8 * s.at_ + 8) (hP : Pre ts q s) (hM : Mz ts q s < n) {f : Int → List Int → Bool → PS → R}
    (H : ∀ z zs c s', Post ts q s z zs c s' → Ok Q' (f z zs c s')) : Ok Q' ((runF ts n q s).bind f) := (IH q s h1 h2 h3 h4 hP hM).bind H
theorem ok_tail {ts : List Tok} {n : Nat} (IH : Tot ts n) {q : Q} {s : PS} {Q' : Int → List Int → Bool → PS → Prop} (h1 : s.at_ < ts.length) (h2 : s.deep ≤ 60) (h3 : Back s.nodes) (h4 : s.nodes.length ≤ 8 * s.at_ + 8) (hP : Pre ts q s) (hM : Mz ts q s < n)
    (H : ∀ z zs c s', Post ts q s z zs c s' → Q' z zs c s') : Ok Q' (runF ts n q s) := (IH q s h1 h2 h3 h4 hP hM).mono H
theorem ok_join {ts : List Tok} {s : PS} {Q' : Int → List Int → Bool → PS → Prop} (h1 : s.at_ < ts.length) (h3 : Back s.nodes) (h4 : s.nodes.length < 900000) {zs : List Int} {c : Bool} {pos : Int} (hf : zs.length < 900000) (hv : Valid s.nodes.length zs) (hc : c = false → zs ≠ [])
    (H : ∀ z s', s'.at_ = s.at_ → s'.at_ < ts.length → s'.deep = s.deep → s.nodes.length ≤ s'.nodes.length → s'.nodes.length ≤ s.nodes.length + 1 → Back s'.nodes → 0 ≤ z ∧ z < (s'.nodes.length : Int) → Q' z [] false s') : Ok Q' (joinF zs c pos s) := by
  unfold joinF
  cases c with
  | true =>
    rw [if_pos rfl]
    exact ok_add h1 h3 h4 hf hv fun z s' a c d l b e => H z s' a c d (by omega) (by omega) b ⟨by omega, by omega⟩
  | false =>
    rw [if_neg (by simp)]
    cases zs with
    | nil => exact absurd rfl (hc rfl)
    | cons z r => exact H z s rfl h1 rfl (Nat.le_refl _) (by omega) h3 (hv z (List.mem_cons_self ..))
theorem ok_block {ts : List Tok} {s : PS} {Q' : Int → List Int → Bool → PS → Prop} (h1 : s.at_ < ts.length) (h3 : Back s.nodes) (h4 : s.nodes.length < 900000) {zs : List Int} (hf : zs.length < 900000) (hv : Valid s.nodes.length zs) (hc : zs ≠ [])
    (H : ∀ z s', s'.at_ = s.at_ → s'.at_ < ts.length → s'.deep = s.deep → s'.nodes.length = s.nodes.length + 1 → Back s'.nodes → 0 ≤ z ∧ z < (s'.nodes.length : Int) → Q' z [] false s') : Ok Q' (blockF zs s) := by
  unfold blockF
  cases zs with
  | nil => exact absurd rfl hc
  | cons z r => exact ok_pos (hv z (List.mem_cons_self ..)) fun p => ok_add h1 h3 h4 hf hv fun z s' a c d l b e => H z s' a c d l b ⟨by omega, by omega⟩
theorem tot_test {ts : List Tok} {n : Nat} (T : Tk ts) (IH : Tot ts n) : ∀ s, s.at_ < ts.length → s.deep ≤ 60 → Back s.nodes → s.nodes.length ≤ 8 * s.at_ + 8 → Pre ts .test s → Mz ts .test s < n + 1 → Ok (Post ts .test s) (runF ts (n + 1) .test s) := by
  intro s h1 h2 h3 h4 hP hM
  simp only [Mz, rank] at hM
  have hfew := T.few
  have _ := IH
  show Ok _ (bodyF ts (runF ts n) _ s)
  unfold bodyF
  dsimp only
  refine ok_call IH h1 (by omega) h3 (by omega) (by exact trivial) (by simp only [Mz, rank]; omega) (fun z1 zs1 c1 s1 P1 => ?_)
  obtain ⟨A1, C1, D1, B1, L1, M1, N1, V1, F1, E1, S1⟩ := P1
  try replace N1 := N1 rfl
  try replace S1 := S1 rfl
  simp only [prog, slack] at A1 M1
  refine ok_sign C1 (fun t2 ht2 => ?_)
  by_cases hl : sg t2 = sIf
  · rw [if_pos hl]
    refine ok_enter T (by decide) C1 (by omega) B1 (fun pos3 s3 A3 C3 D3 DD3 L3 B3 => ?_)
    refine ok_call IH C3 (by omega) B3 (by omega) (by exact trivial) (by simp only [Mz, rank]; omega) (fun z4 zs4 c4 s4 P4 => ?_)
    obtain ⟨A4, C4, D4, B4, L4, M4, N4, V4, F4, E4, S4⟩ := P4
    try replace N4 := N4 rfl
    try replace S4 := S4 rfl
    simp only [prog, slack] at A4 M4
    refine ok_need T (by decide) C4 B4 (fun pos5 s5 A5 C5 D5 L5 B5 => ?_)
    refine ok_call IH C5 (by omega) B5 (by omega) (by exact trivial) (by simp only [Mz, rank]; omega) (fun z6 zs6 c6 s6 P6 => ?_)
    obtain ⟨A6, C6, D6, B6, L6, M6, N6, V6, F6, E6, S6⟩ := P6
    try replace N6 := N6 rfl
    try replace S6 := S6 rfl
    simp only [prog, slack] at A6 M6
    refine ok_leave (by omega) C6 B6 (fun s7 A7 C7 D7 L7 B7 => ?_)
    refine ok_add C7 B7 (by omega) (by simp) (Valid.cons ⟨by omega, by omega⟩ (Valid.cons ⟨by omega, by omega⟩ (Valid.one ⟨by omega, by omega⟩))) (fun z8 s8 A8 C8 D8 L8 B8 Z8 => ?_)
    refine ok_one ?_
    exact ⟨by simp only [prog]; omega, C8, by omega, B8, by omega, by simp only [slack]; omega, fun _ => ⟨by omega, by omega⟩, Valid.nil _, by simp, fun h => by simp [full] at h, fun h => by simp [sure] at h⟩
  · rw [if_neg hl]
    refine ok_one ?_
    exact ⟨by simp only [prog]; omega, C1, by omega, B1, by omega, by simp only [slack]; omega, fun _ => ⟨by omega, by omega⟩, Valid.nil _, by simp, fun h => by simp [full] at h, fun h => by simp [sure] at h⟩

theorem part_facts (ts : List Tok) (k : Nat) (s : PS) : rank (partF k) + 1 ≤ rank (.bin k) ∧ prog (partF k) = 1 ∧ slack (partF k) = 0 ∧ isNode (partF k) = true ∧ Pre ts (partF k) s := by
  rcases k with _ | _ | _ | k <;> exact ⟨by simp [partF, rank], rfl, rfl, rfl, trivial⟩
theorem rank_bin (k : Nat) : rank (.bin k) ≤ 10 := by
  rcases k with _ | _ | _ | k <;> simp [rank]
theorem rank_part (k : Nat) : rank (partF k) ≤ 9 := by
  rcases k with _ | _ | _ | k <;> simp [partF, rank]
theorem opF_ne {k : Nat} {l : List UInt8} (h : opF k l ≠ 0) : l ≠ [] := by
  rintro rfl
  rcases k with _ | _ | _ | k <;> exact h rfl
theorem cmpOp_ne {l : List UInt8} (h : cmpOp l ≠ 0) : l ≠ [] := by
  rintro rfl
  exact h (by decide)

theorem tot_bin {ts : List Tok} {n : Nat} (T : Tk ts) (IH : Tot ts n) (k : Nat) : ∀ s, s.at_ < ts.length → s.deep ≤ 60 → Back s.nodes → s.nodes.length ≤ 8 * s.at_ + 8 → Pre ts (.bin k) s → Mz ts (.bin k) s < n + 1 → Ok (Post ts (.bin k) s) (runF ts (n + 1) (.bin k) s) := by
  intro s h1 h2 h3 h4 hP hM
  obtain ⟨k1, k2, k3, k4, k5⟩ := part_facts ts k s
  have kb := rank_bin k
  unfold Mz at hM
  have hfew := T.few
  show Ok _ (bodyF ts (runF ts n) _ s)
  unfold bodyF
  dsimp only
  refine ok_call IH h1 h2 h3 h4 k5 (by unfold Mz; omega) (fun z1 zs1 c1 s1 P1 => ?_)
  obtain ⟨A1, C1, D1, B1, L1, M1, N1, V1, F1, E1, S1⟩ := P1
  replace N1 := N1 k4
  rw [k2] at A1
  rw [k3] at M1
  refine ok_tail IH C1 (by omega) B1 (by omega) (by exact N1) (by simp only [Mz, rank]; omega) (fun z2 zs2 c2 s2 P2 => ?_)
  obtain ⟨A2, C2, D2, B2, L2, M2, N2, V2, F2, E2, S2⟩ := P2
  try replace N2 := N2 rfl
  try replace S2 := S2 rfl
  simp only [prog, slack] at A2 M2
  exact ⟨by simp only [prog]; omega, C2, by omega, B2, by omega, by simp only [slack]; omega, fun _ => ⟨by omega, by omega⟩, V2, F2, fun h => by simp [full] at h, fun h => by simp [sure] at h⟩

theorem tot_binLoop {ts : List Tok} {n : Nat} (T : Tk ts) (IH : Tot ts n) (k : Nat) (z : Int) : ∀ s, s.at_ < ts.length → s.deep ≤ 60 → Back s.nodes → s.nodes.length ≤ 8 * s.at_ + 8 → Pre ts (.binLoop k z) s → Mz ts (.binLoop k z) s < n + 1 → Ok (Post ts (.binLoop k z) s) (runF ts (n + 1) (.binLoop k z) s) := by
  intro s h1 h2 h3 h4 hP hM
  simp only [Mz, rank] at hM
  have hfew := T.few
  have _ := IH
  show Ok _ (bodyF ts (runF ts n) _ s)
  unfold bodyF
  dsimp only
  refine ok_sign h1 (fun t1 ht1 => ?_)
  have hz : 0 ≤ z ∧ z < (s.nodes.length : Int) := hP
  by_cases hl : opF k (sg t1) = 0
  · rw [if_pos hl]
    refine ok_one ?_
    exact ⟨by simp only [prog]; omega, h1, by omega, h3, by omega, by simp only [slack]; omega, fun _ => ⟨by omega, by omega⟩, Valid.nil _, by simp, fun h => by simp [full] at h, fun h => by simp [sure] at h⟩
  · rw [if_neg hl]
    refine ok_next h1 (fun u hu => ?_)
    obtain ⟨s2, e2, A2, C2, D2, L2, B2⟩ := bump (ts := ts) (T.sg_lt ht1 rfl (opF_ne hl)) s rfl h3
    rw [e2]
    clear e2
    obtain ⟨k1, k2, k3, k4, k5⟩ := part_facts ts k s2
    have kp := rank_part k
    refine ok_call IH C2 (by omega) B2 (by omega) k5 (by unfold Mz; omega) (fun z3 zs3 c3 s3 P3 => ?_)
    obtain ⟨A3, C3, D3, B3, L3, M3, N3, V3, F3, E3, S3⟩ := P3
    replace N3 := N3 k4
    rw [k2] at A3
    rw [k3] at M3
    refine ok_add C3 B3 (by omega) (by simp) (Valid.cons ⟨by omega, by omega⟩ (Valid.one ⟨by omega, by omega⟩)) (fun z4 s4 A4 C4 D4 L4 B4 Z4 => ?_)
    refine ok_tail IH C4 (by omega) B4 (by omega) (by exact show ZV _ _ from ⟨by omega, by omega⟩) (by simp only [Mz, rank]; omega) (fun z5 zs5 c5 s5 P5 => ?_)
    obtain ⟨A5, C5, D5, B5, L5, M5, N5, V5, F5, E5, S5⟩ := P5
    try replace N5 := N5 rfl
    try replace S5 := S5 rfl
    simp only [prog, slack] at A5 M5
    exact ⟨by simp only [prog]; omega, C5, by omega, B5, by omega, by simp only [slack]; omega, fun _ => ⟨by omega, by omega⟩, V5, F5, fun h => by simp [full] at h, fun h => by simp [sure] at h⟩

theorem tot_not {ts : List Tok} {n : Nat} (T : Tk ts) (IH : Tot ts n) : ∀ s, s.at_ < ts.length → s.deep ≤ 60 → Back s.nodes → s.nodes.length ≤ 8 * s.at_ + 8 → Pre ts .not s → Mz ts .not s < n + 1 → Ok (Post ts .not s) (runF ts (n + 1) .not s) := by
  intro s h1 h2 h3 h4 hP hM
  simp only [Mz, rank] at hM
  have hfew := T.few
  have _ := IH
  show Ok _ (bodyF ts (runF ts n) _ s)
  unfold bodyF
  dsimp only
  refine ok_sign h1 (fun t1 ht1 => ?_)
  by_cases hl : sg t1 = sNot
  · rw [if_pos hl]
    refine ok_tail IH h1 (by omega) h3 (by omega) (by exact trivial) (by simp only [Mz, rank]; omega) (fun z2 zs2 c2 s2 P2 => ?_)
    obtain ⟨A2, C2, D2, B2, L2, M2, N2, V2, F2, E2, S2⟩ := P2
    try replace N2 := N2 rfl
    try replace S2 := S2 rfl
    simp only [prog, slack] at A2 M2
    exact ⟨by simp only [prog]; omega, C2, by omega, B2, by omega, by simp only [slack]; omega, fun _ => ⟨by omega, by omega⟩, V2, F2, fun h => by simp [full] at h, fun h => by simp [sure] at h⟩
  · rw [if_neg hl]
    refine ok_tail IH h1 (by omega) h3 (by omega) (by exact trivial) (by simp only [Mz, rank]; omega) (fun z3 zs3 c3 s3 P3 => ?_)
    obtain ⟨A3, C3, D3, B3, L3, M3, N3, V3, F3, E3, S3⟩ := P3
    try replace N3 := N3 rfl
    try replace S3 := S3 rfl
    simp only [prog, slack] at A3 M3
    exact ⟨by simp only [prog]; omega, C3, by omega, B3, by omega, by simp only [slack]; omega, fun _ => ⟨by omega, by omega⟩, V3, F3, fun h => by simp [full] at h, fun h => by simp [sure] at h⟩

theorem tot_ahead {ts : List Tok} {n : Nat} (T : Tk ts) (IH : Tot ts n) (k : Nat) : ∀ s, s.at_ < ts.length → s.deep ≤ 60 → Back s.nodes → s.nodes.length ≤ 8 * s.at_ + 8 → Pre ts (.ahead k) s → Mz ts (.ahead k) s < n + 1 → Ok (Post ts (.ahead k) s) (runF ts (n + 1) (.ahead k) s) := by
  intro s h1 h2 h3 h4 hP hM
  simp only [Mz, rank] at hM
  have hfew := T.few
  have _ := IH
  show Ok _ (bodyF ts (runF ts n) _ s)
  unfold bodyF
  dsimp only
  refine ok_enter T (by split <;> decide) h1 (by omega) h3 (fun pos1 s1 A1 C1 D1 DD1 L1 B1 => ?_)
  have hq : ∃ q, (if k = 0 then Q.not else Q.unary) = q ∧ rank q ≤ 8 ∧ prog q = 1 ∧ slack q = 0 ∧ isNode q = true ∧ ∀ s, Pre ts q s := by
    by_cases hk : k = 0
    · rw [if_pos hk]; exact ⟨_, rfl, by decide, rfl, rfl, rfl, fun _ => trivial⟩
    · rw [if_neg hk]; exact ⟨_, rfl, by decide, rfl, rfl, rfl, fun _ => trivial⟩
  obtain ⟨q, hq, k1, k2, k3, k4, k5⟩ := hq
  rw [hq]
  refine ok_call IH C1 (by omega) B1 (by omega) (k5 _) (by unfold Mz; omega) (fun z2 zs2 c2 s2 P2 => ?_)
  obtain ⟨A2, C2, D2, B2, L2, M2, N2, V2, F2, E2, S2⟩ := P2
  replace N2 := N2 k4
  rw [k2] at A2
  rw [k3] at M2
  refine ok_leave (by omega) C2 B2 (fun s3 A3 C3 D3 L3 B3 => ?_)
  refine ok_add C3 B3 (by omega) (by simp) (Valid.one ⟨by omega, by omega⟩) (fun z4 s4 A4 C4 D4 L4 B4 Z4 => ?_)
  refine ok_one ?_
  exact ⟨by simp only [prog]; omega, C4, by omega, B4, by omega, by simp only [slack]; omega, fun _ => ⟨by omega, by omega⟩, Valid.nil _, by simp, fun h => by simp [full] at h, fun h => by simp [sure] at h⟩

theorem tot_compare {ts : List Tok} {n : Nat} (T : Tk ts) (IH : Tot ts n) : ∀ s, s.at_ < ts.length → s.deep ≤ 60 → Back s.nodes → s.nodes.length ≤ 8 * s.at_ + 8 → Pre ts .compare s → Mz ts .compare s < n + 1 → Ok (Post ts .compare s) (runF ts (n + 1) .compare s) := by
  intro s h1 h2 h3 h4 hP hM
  simp only [Mz, rank] at hM
  have hfew := T.few
  have _ := IH
  show Ok _ (bodyF ts (runF ts n) _ s)
  unfold bodyF
  dsimp only
  refine ok_call IH h1 (by omega) h3 (by omega) (by exact trivial) (by simp only [Mz, rank]; omega) (fun z1 zs1 c1 s1 P1 => ?_)
  obtain ⟨A1, C1, D1, B1, L1, M1, N1, V1, F1, E1, S1⟩ := P1
  try replace N1 := N1 rfl
  try replace S1 := S1 rfl
  simp only [prog, slack] at A1 M1
  refine ok_sign C1 (fun t2 ht2 => ?_)
  by_cases hl : cmpOp (sg t2) = 0
  · rw [if_pos hl]
    refine ok_one ?_
    exact ⟨by simp only [prog]; omega, C1, by omega, B1, by omega, by simp only [slack]; omega, fun _ => ⟨by omega, by omega⟩, Valid.nil _, by simp, fun h => by simp [full] at h, fun h => by simp [sure] at h⟩
  · rw [if_neg hl]
    refine ok_next C1 (fun u hu => ?_)
    obtain ⟨s3, e3, A3, C3, D3, L3, B3⟩ := bump (ts := ts) (T.sg_lt ht2 rfl (cmpOp_ne hl)) s1 rfl B1
    rw [e3]
    clear e3
    by_cases h33 : cmpOp (sg t2) = 33
    · rw [if_pos h33]
      refine ok_need T (by decide) C3 B3 (fun pos4 s4 A4 C4 D4 L4 B4 => ?_)
      refine ok_call IH C4 (by omega) B4 (by omega) (by exact trivial) (by simp only [Mz, rank]; omega) (fun z5 zs5 c5 s5 P5 => ?_)
      obtain ⟨A5, C5, D5, B5, L5, M5, N5, V5, F5, E5, S5⟩ := P5
      try replace N5 := N5 rfl
      try replace S5 := S5 rfl
      simp only [prog, slack] at A5 M5
      refine ok_add C5 B5 (by omega) (by simp) (Valid.cons ⟨by omega, by omega⟩ (Valid.one ⟨by omega, by omega⟩)) (fun z6 s6 A6 C6 D6 L6 B6 Z6 => ?_)
      refine ok_one ?_
      exact ⟨by simp only [prog]; omega, C6, by omega, B6, by omega, by simp only [slack]; omega, fun _ => ⟨by omega, by omega⟩, Valid.nil _, by simp, fun h => by simp [full] at h, fun h => by simp [sure] at h⟩
    · rw [if_neg h33]
      refine ok_call IH C3 (by omega) B3 (by omega) (by exact trivial) (by simp only [Mz, rank]; omega) (fun z7 zs7 c7 s7 P7 => ?_)
      obtain ⟨A7, C7, D7, B7, L7, M7, N7, V7, F7, E7, S7⟩ := P7
      try replace N7 := N7 rfl
      try replace S7 := S7 rfl
      simp only [prog, slack] at A7 M7
      refine ok_add C7 B7 (by omega) (by simp) (Valid.cons ⟨by omega, by omega⟩ (Valid.one ⟨by omega, by omega⟩)) (fun z8 s8 A8 C8 D8 L8 B8 Z8 => ?_)
      refine ok_one ?_
      exact ⟨by simp only [prog]; omega, C8, by omega, B8, by omega, by simp only [slack]; omega, fun _ => ⟨by omega, by omega⟩, Valid.nil _, by simp, fun h => by simp [full] at h, fun h => by simp [sure] at h⟩

theorem tot_unary {ts : List Tok} {n : Nat} (T : Tk ts) (IH : Tot ts n) : ∀ s, s.at_ < ts.length → s.deep ≤ 60 → Back s.nodes → s.nodes.length ≤ 8 * s.at_ + 8 → Pre ts .unary s → Mz ts .unary s < n + 1 → Ok (Post ts .unary s) (runF ts (n + 1) .unary s) := by
  intro s h1 h2 h3 h4 hP hM
  simp only [Mz, rank] at hM
  have hfew := T.few
  have _ := IH
  show Ok _ (bodyF ts (runF ts n) _ s)
  unfold bodyF
  dsimp only
  refine ok_sign h1 (fun t1 ht1 => ?_)
  by_cases hl : sg t1 = [45]
  · rw [if_pos hl]
    refine ok_tail IH h1 (by omega) h3 (by omega) (by exact trivial) (by simp only [Mz, rank]; omega) (fun z2 zs2 c2 s2 P2 => ?_)
    obtain ⟨A2, C2, D2, B2, L2, M2, N2, V2, F2, E2, S2⟩ := P2
    try replace N2 := N2 rfl
    try replace S2 := S2 rfl
    simp only [prog, slack] at A2 M2
    exact ⟨by simp only [prog]; omega, C2, by omega, B2, by omega, by simp only [slack]; omega, fun _ => ⟨by omega, by omega⟩, V2, F2, fun h => by simp [full] at h, fun h => by simp [sure] at h⟩
  · rw [if_neg hl]
    refine ok_tail IH h1 (by omega) h3 (by omega) (by exact trivial) (by simp only [Mz, rank]; omega) (fun z3 zs3 c3 s3 P3 => ?_)
    obtain ⟨A3, C3, D3, B3, L3, M3, N3, V3, F3, E3, S3⟩ := P3
    try replace N3 := N3 rfl
    try replace S3 := S3 rfl
    simp only [prog, slack] at A3 M3
    exact ⟨by simp only [prog]; omega, C3, by omega, B3, by omega, by simp only [slack]; omega, fun _ => ⟨by omega, by omega⟩, V3, F3, fun h => by simp [full] at h, fun h => by simp [sure] at h⟩

theorem tot_primary {ts : List Tok} {n : Nat} (T : Tk ts) (IH : Tot ts n) : ∀ s, s.at_ < ts.length → s.deep ≤ 60 → Back s.nodes → s.nodes.length ≤ 8 * s.at_ + 8 → Pre ts .primary s → Mz ts .primary s < n + 1 → Ok (Post ts .primary s) (runF ts (n + 1) .primary s) := by
  intro s h1 h2 h3 h4 hP hM
  simp only [Mz, rank] at hM
  have hfew := T.few
  have _ := IH
  show Ok _ (bodyF ts (runF ts n) _ s)
  unfold bodyF
  dsimp only
  refine ok_call IH h1 (by omega) h3 (by omega) (by exact trivial) (by simp only [Mz, rank]; omega) (fun z1 zs1 c1 s1 P1 => ?_)
  obtain ⟨A1, C1, D1, B1, L1, M1, N1, V1, F1, E1, S1⟩ := P1
  try replace N1 := N1 rfl
  try replace S1 := S1 rfl
  simp only [prog, slack] at A1 M1
  refine ok_tail IH C1 (by omega) B1 (by omega) (by exact N1) (by simp only [Mz, rank]; omega) (fun z2 zs2 c2 s2 P2 => ?_)
  obtain ⟨A2, C2, D2, B2, L2, M2, N2, V2, F2, E2, S2⟩ := P2
  try replace N2 := N2 rfl
  try replace S2 := S2 rfl
  simp only [prog, slack] at A2 M2
  exact ⟨by simp only [prog]; omega, C2, by omega, B2, by omega, by simp only [slack]; omega, fun _ => ⟨by omega, by omega⟩, V2, F2, fun h => by simp [full] at h, fun h => by simp [sure] at h⟩

theorem tot_primLoop {ts : List Tok} {n : Nat} (T : Tk ts) (IH : Tot ts n) (z : Int) : ∀ s, s.at_ < ts.length → s.deep ≤ 60 → Back s.nodes → s.nodes.length ≤ 8 * s.at_ + 8 → Pre ts (.primLoop z) s → Mz ts (.primLoop z) s < n + 1 → Ok (Post ts (.primLoop z) s) (runF ts (n + 1) (.primLoop z) s) := by
  intro s h1 h2 h3 h4 hP hM
  simp only [Mz, rank] at hM
  have hfew := T.few
  have _ := IH
  show Ok _ (bodyF ts (runF ts n) _ s)
  unfold bodyF
  dsimp only
  have hz : 0 ≤ z ∧ z < (s.nodes.length : Int) := hP
  refine ok_sign h1 (fun t1 ht1 => ?_)
  by_cases hl1 : sg t1 = [46]
  · rw [if_pos hl1]
    refine ok_call IH h1 (by omega) h3 (by omega) (by exact hz) (by simp only [Mz, rank]; omega) (fun z2 zs2 c2 s2 P2 => ?_)
    obtain ⟨A2, C2, D2, B2, L2, M2, N2, V2, F2, E2, S2⟩ := P2
    try replace N2 := N2 rfl
    try replace S2 := S2 rfl
    simp only [prog, slack] at A2 M2
    refine ok_tail IH C2 (by omega) B2 (by omega) (by exact N2) (by simp only [Mz, rank]; omega) (fun z3 zs3 c3 s3 P3 => ?_)
    obtain ⟨A3, C3, D3, B3, L3, M3, N3, V3, F3, E3, S3⟩ := P3
    try replace N3 := N3 rfl
    try replace S3 := S3 rfl
    simp only [prog, slack] at A3 M3
    exact ⟨by simp only [prog]; omega, C3, by omega, B3, by omega, by simp only [slack]; omega, fun _ => ⟨by omega, by omega⟩, V3, F3, fun h => by simp [full] at h, fun h => by simp [sure] at h⟩
  · rw [if_neg hl1]
    by_cases hl2 : sg t1 = [40]
    · rw [if_pos hl2]
      refine ok_call IH h1 (by omega) h3 (by omega) (by exact hz) (by simp only [Mz, rank]; omega) (fun z4 zs4 c4 s4 P4 => ?_)
      obtain ⟨A4, C4, D4, B4, L4, M4, N4, V4, F4, E4, S4⟩ := P4
      try replace N4 := N4 rfl
      try replace S4 := S4 rfl
      simp only [prog, slack] at A4 M4
      refine ok_tail IH C4 (by omega) B4 (by omega) (by exact N4) (by simp only [Mz, rank]; omega) (fun z5 zs5 c5 s5 P5 => ?_)
      obtain ⟨A5, C5, D5, B5, L5, M5, N5, V5, F5, E5, S5⟩ := P5
      try replace N5 := N5 rfl
      try replace S5 := S5 rfl
      simp only [prog, slack] at A5 M5
      exact ⟨by simp only [prog]; omega, C5, by omega, B5, by omega, by simp only [slack]; omega, fun _ => ⟨by omega, by omega⟩, V5, F5, fun h => by simp [full] at h, fun h => by simp [sure] at h⟩
    · rw [if_neg hl2]
      by_cases hl3 : sg t1 = [91]
      · rw [if_pos hl3]
        refine ok_call IH h1 (by omega) h3 (by omega) (by exact hz) (by simp only [Mz, rank]; omega) (fun z6 zs6 c6 s6 P6 => ?_)
        obtain ⟨A6, C6, D6, B6, L6, M6, N6, V6, F6, E6, S6⟩ := P6
        try replace N6 := N6 rfl
        try replace S6 := S6 rfl
        simp only [prog, slack] at A6 M6
        refine ok_tail IH C6 (by omega) B6 (by omega) (by exact N6) (by simp only [Mz, rank]; omega) (fun z7 zs7 c7 s7 P7 => ?_)
        obtain ⟨A7, C7, D7, B7, L7, M7, N7, V7, F7, E7, S7⟩ := P7
        try replace N7 := N7 rfl
        try replace S7 := S7 rfl
        simp only [prog, slack] at A7 M7
        exact ⟨by simp only [prog]; omega, C7, by omega, B7, by omega, by simp only [slack]; omega, fun _ => ⟨by omega, by omega⟩, V7, F7, fun h => by simp [full] at h, fun h => by simp [sure] at h⟩
      · rw [if_neg hl3]
        refine ok_one ?_
        exact ⟨by simp only [prog]; omega, h1, by omega, h3, by omega, by simp only [slack]; omega, fun _ => ⟨by omega, by omega⟩, Valid.nil _, by simp, fun h => by simp [full] at h, fun h => by simp [sure] at h⟩

theorem tot_atom {ts : List Tok} {n : Nat} (T : Tk ts) (IH : Tot ts n) : ∀ s, s.at_ < ts.length → s.deep ≤ 60 → Back s.nodes → s.nodes.length ≤ 8 * s.at_ + 8 → Pre ts .atom s → Mz ts .atom s < n + 1 → Ok (Post ts .atom s) (runF ts (n + 1) .atom s) := by
  intro s h1 h2 h3 h4 hP hM
  simp only [Mz, rank] at hM
  have hfew := T.few
  have _ := IH
  show Ok _ (bodyF ts (runF ts n) _ s)
  unfold bodyF
  dsimp only
  refine ok_kind h1 (fun t1 ht1 => ?_)
  by_cases k1 : t1.kind = 1
  · rw [if_pos k1]
    unfold leafF
    refine ok_next h1 (fun u hu => ?_)
    obtain ⟨s2, e2, A2, C2, D2, L2, B2⟩ := bump (ts := ts) (T.kind_lt ht1 (by omega)) s rfl h3
    rw [e2]
    clear e2
    refine ok_add C2 B2 (by omega) (by simp) (Valid.nil _) (fun z3 s3 A3 C3 D3 L3 B3 Z3 => ?_)
    refine ok_one ?_
    exact ⟨by simp only [prog]; omega, C3, by omega, B3, by omega, by simp only [slack]; omega, fun _ => ⟨by omega, by omega⟩, Valid.nil _, by simp, fun h => by simp [full] at h, fun h => by simp [sure] at h⟩
  · rw [if_neg k1]
    by_cases k2 : t1.kind = 2
    · rw [if_pos k2]
      unfold leafF
      refine ok_next h1 (fun u hu => ?_)
      obtain ⟨s4, e4, A4, C4, D4, L4, B4⟩ := bump (ts := ts) (T.kind_lt ht1 (by omega)) s rfl h3
      rw [e4]
      clear e4
      refine ok_add C4 B4 (by omega) (by simp) (Valid.nil _) (fun z5 s5 A5 C5 D5 L5 B5 Z5 => ?_)
      refine ok_one ?_
      exact ⟨by simp only [prog]; omega, C5, by omega, B5, by omega, by simp only [slack]; omega, fun _ => ⟨by omega, by omega⟩, Valid.nil _, by simp, fun h => by simp [full] at h, fun h => by simp [sure] at h⟩
    · rw [if_neg k2]
      by_cases k3 : t1.kind = 3
      · rw [if_pos k3]
        refine ok_tail IH h1 (by omega) h3 (by omega) (by exact ⟨t1, ht1, k3⟩) (by simp only [Mz, rank]; omega) (fun z6 zs6 c6 s6 P6 => ?_)
        obtain ⟨A6, C6, D6, B6, L6, M6, N6, V6, F6, E6, S6⟩ := P6
        try replace N6 := N6 rfl
        try replace S6 := S6 rfl
        simp only [prog, slack] at A6 M6
        exact ⟨by simp only [prog]; omega, C6, by omega, B6, by omega, by simp only [slack]; omega, fun _ => ⟨by omega, by omega⟩, V6, F6, fun h => by simp [full] at h, fun h => by simp [sure] at h⟩
      · rw [if_neg k3]
        refine ok_sign h1 (fun t7 ht7 => ?_)
        by_cases g1 : sg t7 = sNone
        · rw [if_pos g1]
          unfold wordF
          refine ok_next h1 (fun u hu => ?_)
          obtain ⟨s8, e8, A8, C8, D8, L8, B8⟩ := bump (ts := ts) (T.sg_lt ht7 g1 (by decide)) s rfl h3
          rw [e8]
          clear e8
          refine ok_add C8 B8 (by omega) (by simp) (Valid.nil _) (fun z9 s9 A9 C9 D9 L9 B9 Z9 => ?_)
          refine ok_one ?_
          exact ⟨by simp only [prog]; omega, C9, by omega, B9, by omega, by simp only [slack]; omega, fun _ => ⟨by omega, by omega⟩, Valid.nil _, by simp, fun h => by simp [full] at h, fun h => by simp [sure] at h⟩
        · rw [if_neg g1]
          by_cases g2 : sg t7 = sTrue
          · rw [if_pos g2]
            unfold wordF
            refine ok_next h1 (fun u hu => ?_)
            obtain ⟨s10, e10, A10, C10, D10, L10, B10⟩ := bump (ts := ts) (T.sg_lt ht7 g2 (by decide)) s rfl h3
            rw [e10]
            clear e10
            refine ok_add C10 B10 (by omega) (by simp) (Valid.nil _) (fun z11 s11 A11 C11 D11 L11 B11 Z11 => ?_)
            refine ok_one ?_
            exact ⟨by simp only [prog]; omega, C11, by omega, B11, by omega, by simp only [slack]; omega, fun _ => ⟨by omega, by omega⟩, Valid.nil _, by simp, fun h => by simp [full] at h, fun h => by simp [sure] at h⟩
          · rw [if_neg g2]
            by_cases g3 : sg t7 = sFalse
            · rw [if_pos g3]
              unfold wordF
              refine ok_next h1 (fun u hu => ?_)
              obtain ⟨s12, e12, A12, C12, D12, L12, B12⟩ := bump (ts := ts) (T.sg_lt ht7 g3 (by decide)) s rfl h3
              rw [e12]
              clear e12
              refine ok_add C12 B12 (by omega) (by simp) (Valid.nil _) (fun z13 s13 A13 C13 D13 L13 B13 Z13 => ?_)
              refine ok_one ?_
              exact ⟨by simp only [prog]; omega, C13, by omega, B13, by omega, by simp only [slack]; omega, fun _ => ⟨by omega, by omega⟩, Valid.nil _, by simp, fun h => by simp [full] at h, fun h => by simp [sure] at h⟩
            · rw [if_neg g3]
              by_cases g4 : sg t7 = [40]
              · rw [if_pos g4]
                refine ok_tail IH h1 (by omega) h3 (by omega) (by exact trivial) (by simp only [Mz, rank]; omega) (fun z14 zs14 c14 s14 P14 => ?_)
                obtain ⟨A14, C14, D14, B14, L14, M14, N14, V14, F14, E14, S14⟩ := P14
                try replace N14 := N14 rfl
                try replace S14 := S14 rfl
                simp only [prog, slack] at A14 M14
                exact ⟨by simp only [prog]; omega, C14, by omega, B14, by omega, by simp only [slack]; omega, fun _ => ⟨by omega, by omega⟩, V14, F14, fun h => by simp [full] at h, fun h => by simp [sure] at h⟩
              · rw [if_neg g4]
                by_cases g5 : sg t7 = [91]
                · rw [if_pos g5]
                  refine ok_tail IH h1 (by omega) h3 (by omega) (by exact trivial) (by simp only [Mz, rank]; omega) (fun z15 zs15 c15 s15 P15 => ?_)
                  obtain ⟨A15, C15, D15, B15, L15, M15, N15, V15, F15, E15, S15⟩ := P15
                  try replace N15 := N15 rfl
                  try replace S15 := S15 rfl
                  simp only [prog, slack] at A15 M15
                  exact ⟨by simp only [prog]; omega, C15, by omega, B15, by omega, by simp only [slack]; omega, fun _ => ⟨by omega, by omega⟩, V15, F15, fun h => by simp [full] at h, fun h => by simp [sure] at h⟩
                · rw [if_neg g5]
                  by_cases g6 : sg t7 = [123]
                  · rw [if_pos g6]
                    refine ok_tail IH h1 (by omega) h3 (by omega) (by exact trivial) (by simp only [Mz, rank]; omega) (fun z16 zs16 c16 s16 P16 => ?_)
                    obtain ⟨A16, C16, D16, B16, L16, M16, N16, V16, F16, E16, S16⟩ := P16
                    try replace N16 := N16 rfl
                    try replace S16 := S16 rfl
                    simp only [prog, slack] at A16 M16
                    exact ⟨by simp only [prog]; omega, C16, by omega, B16, by omega, by simp only [slack]; omega, fun _ => ⟨by omega, by omega⟩, V16, F16, fun h => by simp [full] at h, fun h => by simp [sure] at h⟩
                  · rw [if_neg g6]
                    exact ok_allow h1 false (fun h => by cases h)

theorem tot_row {ts : List Tok} {n : Nat} (T : Tk ts) (IH : Tot ts n) (k : Nat) : ∀ s, s.at_ < ts.length → s.deep ≤ 60 → Back s.nodes → s.nodes.length ≤ 8 * s.at_ + 8 → Pre ts (.row k) s → Mz ts (.row k) s < n + 1 → Ok (Post ts (.row k) s) (runF ts (n + 1) (.row k) s) := by
  intro s h1 h2 h3 h4 hP hM
  simp only [Mz, rank] at hM
  have hfew := T.few
  have _ := IH
  show Ok _ (bodyF ts (runF ts n) _ s)
  unfold bodyF
  dsimp only
  have hq : rank (rowP k) ≤ 11 ∧ prog (rowP k) = 1 ∧ slack (rowP k) = 0 ∧ isNode (rowP k) = true ∧ ∀ s, Pre ts (rowP k) s := by
    unfold rowP
    by_cases hk : k = 0
    · rw [if_pos hk]; exact ⟨by decide, rfl, rfl, rfl, fun _ => trivial⟩
    · rw [if_neg hk]; exact ⟨by decide, rfl, rfl, rfl, fun _ => trivial⟩
  obtain ⟨k1, k2, k3, k4, k5⟩ := hq
  refine ok_call IH h1 (by omega) h3 (by omega) (k5 _) (by unfold Mz; omega) (fun z1 zs1 c1 s1 P1 => ?_)
  obtain ⟨A1, C1, D1, B1, L1, M1, N1, V1, F1, E1, S1⟩ := P1
  replace N1 := N1 k4
  rw [k2] at A1
  rw [k3] at M1
  refine ok_tail IH C1 (by omega) B1 (by omega) (by exact ⟨⟨Valid.one N1, by simp; omega⟩, by simp⟩) (by simp only [Mz, rank]; omega) (fun z2 zs2 c2 s2 P2 => ?_)
  obtain ⟨A2, C2, D2, B2, L2, M2, N2, V2, F2, E2, S2⟩ := P2
  try replace N2 := N2 rfl
  try replace S2 := S2 rfl
  simp only [prog, slack] at A2 M2
  exact ⟨by simp only [prog]; omega, C2, by omega, B2, by omega, by simp only [slack]; omega, fun h => by simp [isNode] at h, V2, F2, fun _ _ => S2, fun _ => S2⟩

theorem tot_rowLoop {ts : List Tok} {n : Nat} (T : Tk ts) (IH : Tot ts n) (k : Nat) (zs : List Int) (c : Bool) : ∀ s, s.at_ < ts.length → s.deep ≤ 60 → Back s.nodes → s.nodes.length ≤ 8 * s.at_ + 8 → Pre ts (.rowLoop k zs c) s → Mz ts (.rowLoop k zs c) s < n + 1 → Ok (Post ts (.rowLoop k zs c) s) (runF ts (n + 1) (.rowLoop k zs c) s) := by
  intro s h1 h2 h3 h4 hP hM
  simp only [Mz, rank] at hM
  have hfew := T.few
  have _ := IH
  show Ok _ (bodyF ts (runF ts n) _ s)
  unfold bodyF
  dsimp only
  obtain ⟨⟨hv, hl⟩, hne⟩ := hP
  refine ok_sign h1 (fun t1 ht1 => ?_)
  by_cases g1 : sg t1 = [44]
  · rw [if_pos g1]
    obtain ⟨s2, e2, A2, C2, D2, L2, B2⟩ := bump (ts := ts) (T.sg_lt ht1 g1 (by decide)) s rfl h3
    rw [e2]
    clear e2
    refine ok_rowB C2 k (fun b => ?_)
    by_cases hb : b = true
    · rw [if_pos hb]
      have hq : rank (rowP k) ≤ 11 ∧ prog (rowP k) = 1 ∧ slack (rowP k) = 0 ∧ isNode (rowP k) = true ∧ ∀ s, Pre ts (rowP k) s := by
        unfold rowP
        by_cases hk : k = 0
        · rw [if_pos hk]; exact ⟨by decide, rfl, rfl, rfl, fun _ => trivial⟩
        · rw [if_neg hk]; exact ⟨by decide, rfl, rfl, rfl, fun _ => trivial⟩
      obtain ⟨k1, k2, k3, k4, k5⟩ := hq
      refine ok_call IH C2 (by omega) B2 (by omega) (k5 _) (by unfold Mz; omega) (fun z3 zs3 c3 s3 P3 => ?_)
      obtain ⟨A3, C3, D3, B3, L3, M3, N3, V3, F3, E3, S3⟩ := P3
      replace N3 := N3 k4
      rw [k2] at A3
      rw [k3] at M3
      by_cases hzz : zs.length < 900000
      · rw [if_pos hzz]
        refine ok_tail IH C3 (by omega) B3 (by omega) (by exact ⟨⟨(hv.mono (by omega)).append (Valid.one N3), by rw [List.length_append, List.length_singleton]; omega⟩, by simp⟩) (by simp only [Mz, rank]; omega) (fun z4 zs4 c4 s4 P4 => ?_)
        obtain ⟨A4, C4, D4, B4, L4, M4, N4, V4, F4, E4, S4⟩ := P4
        try replace N4 := N4 rfl
        try replace S4 := S4 rfl
        simp only [prog, slack] at A4 M4
        exact ⟨by simp only [prog]; omega, C4, by omega, B4, by omega, by simp only [slack]; omega, fun h => by simp [isNode] at h, V4, F4, fun _ _ => S4, fun _ => S4⟩
      · rw [if_neg hzz]
        exact absurd (by omega) hzz
    · rw [if_neg hb]
      show Post _ _ _ _ _ _ _
      exact ⟨by simp only [prog]; omega, C2, by omega, B2, by omega, by simp only [slack]; omega, fun h => by simp [isNode] at h, hv.mono (by omega), by omega, fun _ _ => hne, fun _ => hne⟩
  · rw [if_neg g1]
    show Post _ _ _ _ _ _ _
    exact ⟨by simp only [prog]; omega, h1, by omega, h3, by omega, by simp only [slack]; omega, fun h => by simp [isNode] at h, hv, by omega, fun _ _ => hne, fun _ => hne⟩

theorem tot_orNone {ts : List Tok} {n : Nat} (T : Tk ts) (IH : Tot ts n) : ∀ s, s.at_ < ts.length → s.deep ≤ 60 → Back s.nodes → s.nodes.length ≤ 8 * s.at_ + 8 → Pre ts .orNone s → Mz ts .orNone s < n + 1 → Ok (Post ts .orNone s) (runF ts (n + 1) .orNone s) := by
  intro s h1 h2 h3 h4 hP hM
  simp only [Mz, rank] at hM
  have hfew := T.few
  have _ := IH
  show Ok _ (bodyF ts (runF ts n) _ s)
  unfold bodyF
  dsimp only
  refine ok_begins h1 (fun b => ?_)
  by_cases hb : b = true
  · rw [if_pos hb]
    refine ok_tail IH h1 (by omega) h3 (by omega) (by exact trivial) (by simp only [Mz, rank]; omega) (fun z1 zs1 c1 s1 P1 => ?_)
    obtain ⟨A1, C1, D1, B1, L1, M1, N1, V1, F1, E1, S1⟩ := P1
    try replace N1 := N1 rfl
    try replace S1 := S1 rfl
    simp only [prog, slack] at A1 M1
    exact ⟨by simp only [prog]; omega, C1, by omega, B1, by omega, by simp only [slack]; omega, fun h => by simp [isNode] at h, V1, F1, fun _ h => E1 rfl h, fun h => by simp [sure] at h⟩
  · rw [if_neg hb]
    show Post _ _ _ _ _ _ _
    exact ⟨by simp only [prog]; omega, h1, by omega, h3, by omega, by simp only [slack]; omega, fun h => by simp [isNode] at h, Valid.nil _, by simp, (fun _ h => by cases h), fun h => by simp [sure] at h⟩

theorem tot_bare {ts : List Tok} {n : Nat} (T : Tk ts) (IH : Tot ts n) (k : Nat) : ∀ s, s.at_ < ts.length → s.deep ≤ 60 → Back s.nodes → s.nodes.length ≤ 8 * s.at_ + 8 → Pre ts (.bare k) s → Mz ts (.bare k) s < n + 1 → Ok (Post ts (.bare k) s) (runF ts (n + 1) (.bare k) s) := by
  intro s h1 h2 h3 h4 hP hM
  simp only [Mz, rank] at hM
  have hfew := T.few
  have _ := IH
  show Ok _ (bodyF ts (runF ts n) _ s)
  unfold bodyF
  dsimp only
  refine ok_next h1 (fun u hu => ?_)
  refine ok_call IH h1 (by omega) h3 (by omega) (by exact trivial) (by simp only [Mz, rank]; omega) (fun z1 zs1 c1 s1 P1 => ?_)
  obtain ⟨A1, C1, D1, B1, L1, M1, N1, V1, F1, E1, S1⟩ := P1
  try replace N1 := N1 rfl
  try replace S1 := S1 rfl
  simp only [prog, slack] at A1 M1
  refine ok_join C1 B1 (by omega) (by omega) V1 (fun _ => S1) (fun z2 s2 A2 C2 D2 L2 M2 B2 N2 => ?_)
  exact ⟨by simp only [prog]; omega, C2, by omega, B2, by omega, by simp only [slack]; omega, fun _ => ⟨by omega, by omega⟩, Valid.nil _, by simp, fun h => by simp [full] at h, fun h => by simp [sure] at h⟩

theorem tot_round {ts : List Tok} {n : Nat} (T : Tk ts) (IH : Tot ts n) (k : Nat) : ∀ s, s.at_ < ts.length → s.deep ≤ 60 → Back s.nodes → s.nodes.length ≤ 8 * s.at_ + 8 → Pre ts (.round k) s → Mz ts (.round k) s < n + 1 → Ok (Post ts (.round k) s) (runF ts (n + 1) (.round k) s) := by
  intro s h1 h2 h3 h4 hP hM
  simp only [Mz, rank] at hM
  have hfew := T.few
  have _ := IH
  show Ok _ (bodyF ts (runF ts n) _ s)
  unfold bodyF
  dsimp only
  refine ok_enter T (by decide) h1 (by omega) h3 (fun pos1 s1 A1 C1 D1 DD1 L1 B1 => ?_)
  have hq : ∃ q, (if k = 0 then Q.orNone else Q.row 1) = q ∧ rank q ≤ 13 ∧ prog q ≤ 1 ∧ slack q = 0 ∧ full q = true ∧ ∀ s, Pre ts q s := by
    by_cases hk : k = 0
    · rw [if_pos hk]; exact ⟨_, rfl, by decide, by decide, rfl, rfl, fun _ => trivial⟩
    · rw [if_neg hk]; exact ⟨_, rfl, by decide, by decide, rfl, rfl, fun _ => trivial⟩
  obtain ⟨q, hq, k1, k2, k3, k4, k5⟩ := hq
  rw [hq]
  refine ok_call IH C1 (by omega) B1 (by omega) (k5 _) (by unfold Mz; omega) (fun z2 zs2 c2 s2 P2 => ?_)
  obtain ⟨A2, C2, D2, B2, L2, M2, N2, V2, F2, E2, S2⟩ := P2
  replace E2 := E2 k4
  rw [k3] at M2
  refine ok_need T (by decide) C2 B2 (fun pos3 s3 A3 C3 D3 L3 B3 => ?_)
  refine ok_leave (by omega) C3 B3 (fun s4 A4 C4 D4 L4 B4 => ?_)
  refine ok_join C4 B4 (by omega) (by omega) (V2.mono (by omega)) E2 (fun z5 s5 A5 C5 D5 L5 M5 B5 N5 => ?_)
  exact ⟨by simp only [prog]; omega, C5, by omega, B5, by omega, by simp only [slack]; omega, fun _ => ⟨by omega, by omega⟩, Valid.nil _, by simp, fun h => by simp [full] at h, fun h => by simp [sure] at h⟩

theorem tot_target {ts : List Tok} {n : Nat} (T : Tk ts) (IH : Tot ts n) : ∀ s, s.at_ < ts.length → s.deep ≤ 60 → Back s.nodes → s.nodes.length ≤ 8 * s.at_ + 8 → Pre ts .target s → Mz ts .target s < n + 1 → Ok (Post ts .target s) (runF ts (n + 1) .target s) := by
  intro s h1 h2 h3 h4 hP hM
  simp only [Mz, rank] at hM
  have hfew := T.few
  have _ := IH
  show Ok _ (bodyF ts (runF ts n) _ s)
  unfold bodyF
  dsimp only
  refine ok_sign h1 (fun t1 ht1 => ?_)
  by_cases hl : sg t1 = [40]
  · rw [if_pos hl]
    refine ok_tail IH h1 (by omega) h3 (by omega) (by exact trivial) (by simp only [Mz, rank]; omega) (fun z2 zs2 c2 s2 P2 => ?_)
    obtain ⟨A2, C2, D2, B2, L2, M2, N2, V2, F2, E2, S2⟩ := P2
    try replace N2 := N2 rfl
    try replace S2 := S2 rfl
    simp only [prog, slack] at A2 M2
    exact ⟨by simp only [prog]; omega, C2, by omega, B2, by omega, by simp only [slack]; omega, fun _ => ⟨by omega, by omega⟩, V2, F2, fun h => by simp [full] at h, fun h => by simp [sure] at h⟩
  · rw [if_neg hl]
    refine ok_next h1 (fun u hu => ?_)
    by_cases htb : tBegins u = true
    · rw [if_pos htb]
      refine ok_call IH h1 (by omega) h3 (by omega) (by exact trivial) (by simp only [Mz, rank]; omega) (fun z3 zs3 c3 s3 P3 => ?_)
      obtain ⟨A3, C3, D3, B3, L3, M3, N3, V3, F3, E3, S3⟩ := P3
      try replace N3 := N3 rfl
      try replace S3 := S3 rfl
      simp only [prog, slack] at A3 M3
      obtain ⟨b, hb⟩ := targetF_some B3 (s3.nodes.length + 1) z3 N3.1 N3.2 (by omega)
      rw [hb]
      dsimp only
      by_cases hbt : b = true
      · rw [if_pos hbt]
        refine ok_one ?_
        exact ⟨by simp only [prog]; omega, C3, by omega, B3, by omega, by simp only [slack]; omega, fun _ => ⟨by omega, by omega⟩, Valid.nil _, by simp, fun h => by simp [full] at h, fun h => by simp [sure] at h⟩
      · rw [if_neg hbt]
        trivial
    · rw [if_neg htb]
      trivial

theorem tot_def {ts : List Tok} {n : Nat} (T : Tk ts) (IH : Tot ts n) : ∀ s, s.at_ < ts.length → s.deep ≤ 60 → Back s.nodes → s.nodes.length ≤ 8 * s.at_ + 8 → Pre ts .def_ s → Mz ts .def_ s < n + 1 → Ok (Post ts .def_ s) (runF ts (n + 1) .def_ s) := by
  intro s h1 h2 h3 h4 hP hM
  simp only [Mz, rank] at hM
  have hfew := T.few
  have _ := IH
  show Ok _ (bodyF ts (runF ts n) _ s)
  unfold bodyF
  dsimp only
  refine ok_need T (by decide) h1 h3 (fun pos1 s1 A1 C1 D1 L1 B1 => ?_)
  refine ok_take T (by decide) C1 B1 (fun t2 s2 ht2 A2 C2 D2 L2 B2 => ?_)
  refine ok_need T (by decide) C2 B2 (fun pos3 s3 A3 C3 D3 L3 B3 => ?_)
  refine ok_call IH C3 (by omega) B3 (by omega) (by exact ⟨⟨Valid.nil _, by simp⟩, by simp⟩) (by simp only [Mz, rank]; omega) (fun z4 zs4 c4 s4 P4 => ?_)
  obtain ⟨A4, C4, D4, B4, L4, M4, N4, V4, F4, E4, S4⟩ := P4
  try replace N4 := N4 rfl
  try replace S4 := S4 rfl
  simp only [prog, slack] at A4 M4
  refine ok_need T (by decide) C4 B4 (fun pos5 s5 A5 C5 D5 L5 B5 => ?_)
  refine ok_call IH C5 (by omega) B5 (by omega) (by exact trivial) (by simp only [Mz, rank]; omega) (fun z6 zs6 c6 s6 P6 => ?_)
  obtain ⟨A6, C6, D6, B6, L6, M6, N6, V6, F6, E6, S6⟩ := P6
  try replace N6 := N6 rfl
  try replace S6 := S6 rfl
  simp only [prog, slack] at A6 M6
  refine ok_add C6 B6 (by omega) (by rw [List.length_append, List.length_singleton]; omega) ((V4.mono (by omega)).append (Valid.one ⟨by omega, by omega⟩)) (fun z7 s7 A7 C7 D7 L7 B7 Z7 => ?_)
  refine ok_one ?_
  exact ⟨by simp only [prog]; omega, C7, by omega, B7, by omega, by simp only [slack]; omega, fun _ => ⟨by omega, by omega⟩, Valid.nil _, by simp, fun h => by simp [full] at h, fun h => by simp [sure] at h⟩

theorem tot_params {ts : List Tok} {n : Nat} (T : Tk ts) (IH : Tot ts n) (zs : List Int) (names : List (List UInt8)) (given : Bool) : ∀ s, s.at_ < ts.length → s.deep ≤ 60 → Back s.nodes → s.nodes.length ≤ 8 * s.at_ + 8 → Pre ts (.params zs names given) s → Mz ts (.params zs names given) s < n + 1 → Ok (Post ts (.params zs names given) s) (runF ts (n + 1) (.params zs names given) s) := by
  intro s h1 h2 h3 h4 hP hM
  simp only [Mz, rank] at hM
  have hfew := T.few
  have _ := IH
  show Ok _ (bodyF ts (runF ts n) _ s)
  unfold bodyF
  dsimp only
  obtain ⟨⟨hv, hl⟩, hn⟩ := hP
  refine ok_sign h1 (fun t1 ht1 => ?_)
  by_cases g1 : sg t1 = [41]
  · rw [if_pos g1]
    show Post _ _ _ _ _ _ _
    exact ⟨by simp only [prog]; omega, h1, by omega, h3, by omega, by simp only [slack]; omega, fun h => by simp [isNode] at h, hv, by omega, fun h => by simp [full] at h, fun h => by simp [sure] at h⟩
  · rw [if_neg g1]
    refine ok_next h1 (fun u hu => ?_)
    refine ok_call IH h1 (by omega) h3 (by omega) (by exact trivial) (by simp only [Mz, rank]; omega) (fun z2 zs2 c2 s2 P2 => ?_)
    obtain ⟨A2, C2, D2, B2, L2, M2, N2, V2, F2, E2, S2⟩ := P2
    try replace N2 := N2 rfl
    try replace S2 := S2 rfl
    simp only [prog, slack] at A2 M2
    by_cases hzz : zs.length < 900000 ∧ names.length < 900000
    · rw [if_pos hzz]
      refine ok_sign C2 (fun t3 ht3 => ?_)
      by_cases g2 : sg t3 = [41]
      · rw [if_pos g2]
        show Post _ _ _ _ _ _ _
        exact ⟨by simp only [prog]; omega, C2, by omega, B2, by omega, by simp only [slack]; omega, fun h => by simp [isNode] at h, (hv.mono (by omega)).append (Valid.one ⟨by omega, by omega⟩), by rw [List.length_append, List.length_singleton]; omega, fun h => by simp [full] at h, fun h => by simp [sure] at h⟩
      · rw [if_neg g2]
        refine ok_need T (by decide) C2 B2 (fun pos4 s4 A4 C4 D4 L4 B4 => ?_)
        refine ok_tail IH C4 (by omega) B4 (by omega) (by exact ⟨⟨(hv.mono (by omega)).append (Valid.one ⟨by omega, by omega⟩), by rw [List.length_append, List.length_singleton]; omega⟩, by (try split) <;> (try simp only [List.length_cons]) <;> omega⟩) (by simp only [Mz, rank]; omega) (fun z5 zs5 c5 s5 P5 => ?_)
        obtain ⟨A5, C5, D5, B5, L5, M5, N5, V5, F5, E5, S5⟩ := P5
        try replace N5 := N5 rfl
        try replace S5 := S5 rfl
        simp only [prog, slack] at A5 M5
        exact ⟨by simp only [prog]; omega, C5, by omega, B5, by omega, by simp only [slack]; omega, fun h => by simp [isNode] at h, V5, F5, fun h => by simp [full] at h, fun h => by simp [sure] at h⟩
    · rw [if_neg hzz]
      exact absurd ⟨by omega, by omega⟩ hzz

theorem tot_param {ts : List Tok} {n : Nat} (T : Tk ts) (IH : Tot ts n) (names : List (List UInt8)) (given : Bool) : ∀ s, s.at_ < ts.length → s.deep ≤ 60 → Back s.nodes → s.nodes.length ≤ 8 * s.at_ + 8 → Pre ts (.param names given) s → Mz ts (.param names given) s < n + 1 → Ok (Post ts (.param names given) s) (runF ts (n + 1) (.param names given) s) := by
  intro s h1 h2 h3 h4 hP hM
  simp only [Mz, rank] at hM
  have hfew := T.few
  have _ := IH
  show Ok _ (bodyF ts (runF ts n) _ s)
  unfold bodyF
  dsimp only
  refine ok_take T (by decide) h1 h3 (fun t1 s1 ht1 A1 C1 D1 L1 B1 => ?_)
  refine ok_sign C1 (fun t2 ht2 => ?_)
  by_cases g1 : sg t2 = [61]
  · rw [if_pos g1]
    by_cases hin : t1.text ∈ names
    · rw [if_pos hin]
      trivial
    · rw [if_neg hin]
      obtain ⟨s3, e3, A3, C3, D3, L3, B3⟩ := bump (ts := ts) (T.sg_lt ht2 g1 (by decide)) s1 rfl B1
      rw [e3]
      clear e3
      refine ok_call IH C3 (by omega) B3 (by omega) (by exact trivial) (by simp only [Mz, rank]; omega) (fun z4 zs4 c4 s4 P4 => ?_)
      obtain ⟨A4, C4, D4, B4, L4, M4, N4, V4, F4, E4, S4⟩ := P4
      try replace N4 := N4 rfl
      try replace S4 := S4 rfl
      simp only [prog, slack] at A4 M4
      refine ok_add C4 B4 (by omega) (by simp) (Valid.one ⟨by omega, by omega⟩) (fun z5 s5 A5 C5 D5 L5 B5 Z5 => ?_)
      show Post _ _ _ _ _ _ _
      exact ⟨by simp only [prog]; omega, C5, by omega, B5, by omega, by simp only [slack]; omega, fun _ => ⟨by omega, by omega⟩, Valid.nil _, by simp, fun h => by simp [full] at h, fun h => by simp [sure] at h⟩
  · rw [if_neg g1]
    by_cases hin : t1.text ∈ names ∨ given = true
    · rw [if_pos hin]
      trivial
    · rw [if_neg hin]
      refine ok_add C1 B1 (by omega) (by simp) (Valid.nil _) (fun z6 s6 A6 C6 D6 L6 B6 Z6 => ?_)
      show Post _ _ _ _ _ _ _
      exact ⟨by simp only [prog]; omega, C6, by omega, B6, by omega, by simp only [slack]; omega, fun _ => ⟨by omega, by omega⟩, Valid.nil _, by simp, fun h => by simp [full] at h, fun h => by simp [sure] at h⟩

theorem tot_call {ts : List Tok} {n : Nat} (T : Tk ts) (IH : Tot ts n) (z : Int) : ∀ s, s.at_ < ts.length → s.deep ≤ 60 → Back s.nodes → s.nodes.length ≤ 8 * s.at_ + 8 → Pre ts (.call z) s → Mz ts (.call z) s < n + 1 → Ok (Post ts (.call z) s) (runF ts (n + 1) (.call z) s) := by
  intro s h1 h2 h3 h4 hP hM
  simp only [Mz, rank] at hM
  have hfew := T.few
  have _ := IH
  show Ok _ (bodyF ts (runF ts n) _ s)
  unfold bodyF
  dsimp only
  have hz : 0 ≤ z ∧ z < (s.nodes.length : Int) := hP
  refine ok_enter T (by decide) h1 (by omega) h3 (fun pos1 s1 A1 C1 D1 DD1 L1 B1 => ?_)
  refine ok_call IH C1 (by omega) B1 (by omega) (by exact ⟨⟨Valid.one ⟨by omega, by omega⟩, by simp; omega⟩, by simp⟩) (by simp only [Mz, rank]; omega) (fun z2 zs2 c2 s2 P2 => ?_)
  obtain ⟨A2, C2, D2, B2, L2, M2, N2, V2, F2, E2, S2⟩ := P2
  try replace N2 := N2 rfl
  try replace S2 := S2 rfl
  simp only [prog, slack] at A2 M2
  refine ok_shut T (by decide) (by omega) C2 B2 (fun s3 A3 C3 D3 L3 B3 => ?_)
  refine ok_add C3 B3 (by omega) (by omega) (V2.mono (by omega)) (fun z4 s4 A4 C4 D4 L4 B4 Z4 => ?_)
  refine ok_one ?_
  exact ⟨by simp only [prog]; omega, C4, by omega, B4, by omega, by simp only [slack]; omega, fun _ => ⟨by omega, by omega⟩, Valid.nil _, by simp, fun h => by simp [full] at h, fun h => by simp [sure] at h⟩

theorem tot_args {ts : List Tok} {n : Nat} (T : Tk ts) (IH : Tot ts n) (zs : List Int) (names : List (List UInt8)) : ∀ s, s.at_ < ts.length → s.deep ≤ 60 → Back s.nodes → s.nodes.length ≤ 8 * s.at_ + 8 → Pre ts (.args zs names) s → Mz ts (.args zs names) s < n + 1 → Ok (Post ts (.args zs names) s) (runF ts (n + 1) (.args zs names) s) := by
  intro s h1 h2 h3 h4 hP hM
  simp only [Mz, rank] at hM
  have hfew := T.few
  have _ := IH
  show Ok _ (bodyF ts (runF ts n) _ s)
  unfold bodyF
  dsimp only
  obtain ⟨⟨hv, hl⟩, hn⟩ := hP
  refine ok_sign h1 (fun t1 ht1 => ?_)
  by_cases g1 : sg t1 = [41]
  · rw [if_pos g1]
    show Post _ _ _ _ _ _ _
    exact ⟨by simp only [prog]; omega, h1, by omega, h3, by omega, by simp only [slack]; omega, fun h => by simp [isNode] at h, hv, by omega, fun h => by simp [full] at h, fun h => by simp [sure] at h⟩
  · rw [if_neg g1]
    refine ok_next h1 (fun u hu => ?_)
    refine ok_call IH h1 (by omega) h3 (by omega) (by exact trivial) (by simp only [Mz, rank]; omega) (fun z2 zs2 c2 s2 P2 => ?_)
    obtain ⟨A2, C2, D2, B2, L2, M2, N2, V2, F2, E2, S2⟩ := P2
    try replace N2 := N2 rfl
    try replace S2 := S2 rfl
    simp only [prog, slack] at A2 M2
    by_cases hzz : zs.length < 900000 ∧ names.length < 900000
    · rw [if_pos hzz]
      refine ok_sign C2 (fun t3 ht3 => ?_)
      by_cases g2 : sg t3 = [41]
      · rw [if_pos g2]
        show Post _ _ _ _ _ _ _
        exact ⟨by simp only [prog]; omega, C2, by omega, B2, by omega, by simp only [slack]; omega, fun h => by simp [isNode] at h, (hv.mono (by omega)).append (Valid.one ⟨by omega, by omega⟩), by rw [List.length_append, List.length_singleton]; omega, fun h => by simp [full] at h, fun h => by simp [sure] at h⟩
      · rw [if_neg g2]
        refine ok_need T (by decide) C2 B2 (fun pos4 s4 A4 C4 D4 L4 B4 => ?_)
        refine ok_tail IH C4 (by omega) B4 (by omega) (by exact ⟨⟨(hv.mono (by omega)).append (Valid.one ⟨by omega, by omega⟩), by rw [List.length_append, List.length_singleton]; omega⟩, by (try split) <;> (try simp only [List.length_cons]) <;> omega⟩) (by simp only [Mz, rank]; omega) (fun z5 zs5 c5 s5 P5 => ?_)
        obtain ⟨A5, C5, D5, B5, L5, M5, N5, V5, F5, E5, S5⟩ := P5
        try replace N5 := N5 rfl
        try replace S5 := S5 rfl
        simp only [prog, slack] at A5 M5
        exact ⟨by simp only [prog]; omega, C5, by omega, B5, by omega, by simp only [slack]; omega, fun h => by simp [isNode] at h, V5, F5, fun h => by simp [full] at h, fun h => by simp [sure] at h⟩
    · rw [if_neg hzz]
      exact absurd ⟨by omega, by omega⟩ hzz

theorem tot_argument {ts : List Tok} {n : Nat} (T : Tk ts) (IH : Tot ts n) (names : List (List UInt8)) : ∀ s, s.at_ < ts.length → s.deep ≤ 60 → Back s.nodes → s.nodes.length ≤ 8 * s.at_ + 8 → Pre ts (.argument names) s → Mz ts (.argument names) s < n + 1 → Ok (Post ts (.argument names) s) (runF ts (n + 1) (.argument names) s) := by
  intro s h1 h2 h3 h4 hP hM
  simp only [Mz, rank] at hM
  have hfew := T.few
  have _ := IH
  show Ok _ (bodyF ts (runF ts n) _ s)
  unfold bodyF
  dsimp only
  refine ok_next h1 (fun u hu => ?_)
  by_cases hk : u.kind = 1
  · rw [if_pos hk]
    obtain ⟨t1, ht1⟩ : ∃ t, ts[s.at_ + 1]? = some t := ⟨_, List.getElem?_eq_getElem (T.kind_lt hu (by omega))⟩
    rw [ht1]
    dsimp only
    by_cases g1 : sg t1 = [61]
    · rw [if_pos g1]
      by_cases hin : u.text ∈ names
      · rw [if_pos hin]
        trivial
      · rw [if_neg hin]
        obtain ⟨s2, e2, A2, C2, D2, L2, B2⟩ := bump (ts := ts) (T.kind_lt hu (by omega)) s rfl h3
        rw [e2]
        clear e2
        refine ok_need T (by decide) C2 B2 (fun pos3 s3 A3 C3 D3 L3 B3 => ?_)
        refine ok_call IH C3 (by omega) B3 (by omega) (by exact trivial) (by simp only [Mz, rank]; omega) (fun z4 zs4 c4 s4 P4 => ?_)
        obtain ⟨A4, C4, D4, B4, L4, M4, N4, V4, F4, E4, S4⟩ := P4
        try replace N4 := N4 rfl
        try replace S4 := S4 rfl
        simp only [prog, slack] at A4 M4
        refine ok_add C4 B4 (by omega) (by simp) (Valid.one ⟨by omega, by omega⟩) (fun z5 s5 A5 C5 D5 L5 B5 Z5 => ?_)
        show Post _ _ _ _ _ _ _
        exact ⟨by simp only [prog]; omega, C5, by omega, B5, by omega, by simp only [slack]; omega, fun _ => ⟨by omega, by omega⟩, Valid.nil _, by simp, fun h => by simp [full] at h, fun h => by simp [sure] at h⟩
    · rw [if_neg g1]
      by_cases hnm : names = []
      · rw [if_pos hnm]
        refine ok_call IH h1 (by omega) h3 (by omega) (by exact trivial) (by simp only [Mz, rank]; omega) (fun z6 zs6 c6 s6 P6 => ?_)
        obtain ⟨A6, C6, D6, B6, L6, M6, N6, V6, F6, E6, S6⟩ := P6
        try replace N6 := N6 rfl
        try replace S6 := S6 rfl
        simp only [prog, slack] at A6 M6
        show Post _ _ _ _ _ _ _
        exact ⟨by simp only [prog]; omega, C6, by omega, B6, by omega, by simp only [slack]; omega, fun _ => ⟨by omega, by omega⟩, Valid.nil _, by simp, fun h => by simp [full] at h, fun h => by simp [sure] at h⟩
      · rw [if_neg hnm]
        trivial
  · rw [if_neg hk]
    by_cases hnm : names = []
    · rw [if_pos hnm]
      refine ok_call IH h1 (by omega) h3 (by omega) (by exact trivial) (by simp only [Mz, rank]; omega) (fun z7 zs7 c7 s7 P7 => ?_)
      obtain ⟨A7, C7, D7, B7, L7, M7, N7, V7, F7, E7, S7⟩ := P7
      try replace N7 := N7 rfl
      try replace S7 := S7 rfl
      simp only [prog, slack] at A7 M7
      show Post _ _ _ _ _ _ _
      exact ⟨by simp only [prog]; omega, C7, by omega, B7, by omega, by simp only [slack]; omega, fun _ => ⟨by omega, by omega⟩, Valid.nil _, by simp, fun h => by simp [full] at h, fun h => by simp [sure] at h⟩
    · rw [if_neg hnm]
      trivial

theorem tot_dot {ts : List Tok} {n : Nat} (T : Tk ts) (IH : Tot ts n) (z : Int) : ∀ s, s.at_ < ts.length → s.deep ≤ 60 → Back s.nodes → s.nodes.length ≤ 8 * s.at_ + 8 → Pre ts (.dot z) s → Mz ts (.dot z) s < n + 1 → Ok (Post ts (.dot z) s) (runF ts (n + 1) (.dot z) s) := by
  intro s h1 h2 h3 h4 hP hM
  simp only [Mz, rank] at hM
  have hfew := T.few
  have _ := IH
  show Ok _ (bodyF ts (runF ts n) _ s)
  unfold bodyF
  dsimp only
  have hz : 0 ≤ z ∧ z < (s.nodes.length : Int) := hP
  refine ok_need T (by decide) h1 h3 (fun pos1 s1 A1 C1 D1 L1 B1 => ?_)
  refine ok_take T (by decide) C1 B1 (fun t2 s2 ht2 A2 C2 D2 L2 B2 => ?_)
  refine ok_add C2 B2 (by omega) (by simp) (Valid.one ⟨by omega, by omega⟩) (fun z3 s3 A3 C3 D3 L3 B3 Z3 => ?_)
  refine ok_one ?_
  exact ⟨by simp only [prog]; omega, C3, by omega, B3, by omega, by simp only [slack]; omega, fun _ => ⟨by omega, by omega⟩, Valid.nil _, by simp, fun h => by simp [full] at h, fun h => by simp [sure] at h⟩

theorem tot_index {ts : List Tok} {n : Nat} (T : Tk ts) (IH : Tot ts n) (z : Int) : ∀ s, s.at_ < ts.length → s.deep ≤ 60 → Back s.nodes → s.nodes.length ≤ 8 * s.at_ + 8 → Pre ts (.index z) s → Mz ts (.index z) s < n + 1 → Ok (Post ts (.index z) s) (runF ts (n + 1) (.index z) s) := by
  intro s h1 h2 h3 h4 hP hM
  simp only [Mz, rank] at hM
  have hfew := T.few
  have _ := IH
  show Ok _ (bodyF ts (runF ts n) _ s)
  unfold bodyF
  dsimp only
  have hz : 0 ≤ z ∧ z < (s.nodes.length : Int) := hP
  refine ok_enter T (by decide) h1 (by omega) h3 (fun pos1 s1 A1 C1 D1 DD1 L1 B1 => ?_)
  refine ok_call IH C1 (by omega) B1 (by omega) (by exact trivial) (by simp only [Mz, rank]; omega) (fun z2 zs2 c2 s2 P2 => ?_)
  obtain ⟨A2, C2, D2, B2, L2, M2, N2, V2, F2, E2, S2⟩ := P2
  try replace N2 := N2 rfl
  try replace S2 := S2 rfl
  simp only [prog, slack] at A2 M2
  refine ok_sign C2 (fun t3 ht3 => ?_)
  by_cases g1 : sg t3 = [58]
  · rw [if_pos g1]
    obtain ⟨s4, e4, A4, C4, D4, L4, B4⟩ := bump (ts := ts) (T.sg_lt ht3 g1 (by decide)) s2 rfl B2
    rw [e4]
    clear e4
    refine ok_call IH C4 (by omega) B4 (by omega) (by exact trivial) (by simp only [Mz, rank]; omega) (fun z5 zs5 c5 s5 P5 => ?_)
    obtain ⟨A5, C5, D5, B5, L5, M5, N5, V5, F5, E5, S5⟩ := P5
    try replace N5 := N5 rfl
    try replace S5 := S5 rfl
    simp only [prog, slack] at A5 M5
    refine ok_shut T (by decide) (by omega) C5 B5 (fun s6 A6 C6 D6 L6 B6 => ?_)
    refine ok_add C6 B6 (by omega) (by simp) (Valid.cons ⟨by omega, by omega⟩ (Valid.cons ⟨by omega, by omega⟩ (Valid.one ⟨by omega, by omega⟩))) (fun z7 s7 A7 C7 D7 L7 B7 Z7 => ?_)
    refine ok_one ?_
    exact ⟨by simp only [prog]; omega, C7, by omega, B7, by omega, by simp only [slack]; omega, fun _ => ⟨by omega, by omega⟩, Valid.nil _, by simp, fun h => by simp [full] at h, fun h => by simp [sure] at h⟩
  · rw [if_neg g1]
    refine ok_shut T (by decide) (by omega) C2 B2 (fun s8 A8 C8 D8 L8 B8 => ?_)
    refine ok_add C8 B8 (by omega) (by simp) (Valid.cons ⟨by omega, by omega⟩ (Valid.one ⟨by omega, by omega⟩)) (fun z9 s9 A9 C9 D9 L9 B9 Z9 => ?_)
    refine ok_one ?_
    exact ⟨by simp only [prog]; omega, C9, by omega, B9, by omega, by simp only [slack]; omega, fun _ => ⟨by omega, by omega⟩, Valid.nil _, by simp, fun h => by simp [full] at h, fun h => by simp [sure] at h⟩

theorem tot_bound {ts : List Tok} {n : Nat} (T : Tk ts) (IH : Tot ts n) (k : Nat) : ∀ s, s.at_ < ts.length → s.deep ≤ 60 → Back s.nodes → s.nodes.length ≤ 8 * s.at_ + 8 → Pre ts (.bound k) s → Mz ts (.bound k) s < n + 1 → Ok (Post ts (.bound k) s) (runF ts (n + 1) (.bound k) s) := by
  intro s h1 h2 h3 h4 hP hM
  simp only [Mz, rank] at hM
  have hfew := T.few
  have _ := IH
  show Ok _ (bodyF ts (runF ts n) _ s)
  unfold bodyF
  dsimp only
  refine ok_sign h1 (fun t1 ht1 => ?_)
  generalize (if k = 0 then ([58] : List UInt8) else [93]) = cl
  by_cases g1 : sg t1 = cl
  · rw [if_pos g1]
    refine ok_next h1 (fun u hu => ?_)
    refine ok_add h1 h3 (by omega) (by simp) (Valid.nil _) (fun z2 s2 A2 C2 D2 L2 B2 Z2 => ?_)
    refine ok_one ?_
    exact ⟨by simp only [prog]; omega, C2, by omega, B2, by omega, by simp only [slack]; omega, fun _ => ⟨by omega, by omega⟩, Valid.nil _, by simp, fun h => by simp [full] at h, fun h => by simp [sure] at h⟩
  · rw [if_neg g1]
    refine ok_tail IH h1 (by omega) h3 (by omega) (by exact trivial) (by simp only [Mz, rank]; omega) (fun z3 zs3 c3 s3 P3 => ?_)
    obtain ⟨A3, C3, D3, B3, L3, M3, N3, V3, F3, E3, S3⟩ := P3
    try replace N3 := N3 rfl
    try replace S3 := S3 rfl
    simp only [prog, slack] at A3 M3
    exact ⟨by simp only [prog]; omega, C3, by omega, B3, by omega, by simp only [slack]; omega, fun _ => ⟨by omega, by omega⟩, V3, F3, fun h => by simp [full] at h, fun h => by simp [sure] at h⟩

theorem tot_list {ts : List Tok} {n : Nat} (T : Tk ts) (IH : Tot ts n) : ∀ s, s.at_ < ts.length → s.deep ≤ 60 → Back s.nodes → s.nodes.length ≤ 8 * s.at_ + 8 → Pre ts .list s → Mz ts .list s < n + 1 → Ok (Post ts .list s) (runF ts (n + 1) .list s) := by
  intro s h1 h2 h3 h4 hP hM
  simp only [Mz, rank] at hM
  have hfew := T.few
  have _ := IH
  show Ok _ (bodyF ts (runF ts n) _ s)
  unfold bodyF
  dsimp only
  refine ok_enter T (by decide) h1 (by omega) h3 (fun pos1 s1 A1 C1 D1 DD1 L1 B1 => ?_)
  refine ok_call IH C1 (by omega) B1 (by omega) (by exact trivial) (by simp only [Mz, rank]; omega) (fun z2 zs2 c2 s2 P2 => ?_)
  obtain ⟨A2, C2, D2, B2, L2, M2, N2, V2, F2, E2, S2⟩ := P2
  try replace N2 := N2 rfl
  try replace S2 := S2 rfl
  simp only [prog, slack] at A2 M2
  by_cases hc : c2 = true
  · rw [if_pos hc]
    refine ok_shut T (by decide) (by omega) C2 B2 (fun s3 A3 C3 D3 L3 B3 => ?_)
    refine ok_add C3 B3 (by omega) (by omega) (V2.mono (by omega)) (fun z4 s4 A4 C4 D4 L4 B4 Z4 => ?_)
    refine ok_one ?_
    exact ⟨by simp only [prog]; omega, C4, by omega, B4, by omega, by simp only [slack]; omega, fun _ => ⟨by omega, by omega⟩, Valid.nil _, by simp, fun h => by simp [full] at h, fun h => by simp [sure] at h⟩
  · rw [if_neg hc]
    refine ok_sign C2 (fun t5 ht5 => ?_)
    by_cases g1 : sg t5 = sFor
    · rw [if_pos g1]
      refine ok_call IH C2 (by omega) B2 (by omega) (by exact trivial) (by simp only [Mz, rank]; omega) (fun z6 zs6 c6 s6 P6 => ?_)
      obtain ⟨A6, C6, D6, B6, L6, M6, N6, V6, F6, E6, S6⟩ := P6
      try replace N6 := N6 rfl
      try replace S6 := S6 rfl
      simp only [prog, slack] at A6 M6
      rcases zs6 with _ | ⟨r0, rr⟩
      · exact absurd rfl S6
      dsimp only
      by_cases hzz : zs2.length + (r0 :: rr).length < 900000
      · rw [if_pos hzz]
        refine ok_shut T (by decide) (by omega) C6 B6 (fun s7 A7 C7 D7 L7 B7 => ?_)
        refine ok_add C7 B7 (by omega) (by rw [List.length_append]; omega) ((V2.mono (by omega)).append (V6.mono (by omega))) (fun z8 s8 A8 C8 D8 L8 B8 Z8 => ?_)
        refine ok_one ?_
        exact ⟨by simp only [prog]; omega, C8, by omega, B8, by omega, by simp only [slack]; omega, fun _ => ⟨by omega, by omega⟩, Valid.nil _, by simp, fun h => by simp [full] at h, fun h => by simp [sure] at h⟩
      · rw [if_neg hzz]
        exact absurd (by omega) hzz
    · rw [if_neg g1]
      refine ok_shut T (by decide) (by omega) C2 B2 (fun s9 A9 C9 D9 L9 B9 => ?_)
      refine ok_add C9 B9 (by omega) (by omega) (V2.mono (by omega)) (fun z10 s10 A10 C10 D10 L10 B10 Z10 => ?_)
      refine ok_one ?_
      exact ⟨by simp only [prog]; omega, C10, by omega, B10, by omega, by simp only [slack]; omega, fun _ => ⟨by omega, by omega⟩, Valid.nil _, by simp, fun h => by simp [full] at h, fun h => by simp [sure] at h⟩

theorem tot_rounds {ts : List Tok} {n : Nat} (T : Tk ts) (IH : Tot ts n) : ∀ s, s.at_ < ts.length → s.deep ≤ 60 → Back s.nodes → s.nodes.length ≤ 8 * s.at_ + 8 → Pre ts .rounds s → Mz ts .rounds s < n + 1 → Ok (Post ts .rounds s) (runF ts (n + 1) .rounds s) := by
  intro s h1 h2 h3 h4 hP hM
  simp only [Mz, rank] at hM
  have hfew := T.few
  have _ := IH
  show Ok _ (bodyF ts (runF ts n) _ s)
  unfold bodyF
  dsimp only
  refine ok_need T (by decide) h1 h3 (fun pos1 s1 A1 C1 D1 L1 B1 => ?_)
  refine ok_call IH C1 (by omega) B1 (by omega) (by exact trivial) (by simp only [Mz, rank]; omega) (fun z2 zs2 c2 s2 P2 => ?_)
  obtain ⟨A2, C2, D2, B2, L2, M2, N2, V2, F2, E2, S2⟩ := P2
  try replace N2 := N2 rfl
  try replace S2 := S2 rfl
  simp only [prog, slack] at A2 M2
  refine ok_need T (by decide) C2 B2 (fun pos3 s3 A3 C3 D3 L3 B3 => ?_)
  refine ok_call IH C3 (by omega) B3 (by omega) (by exact trivial) (by simp only [Mz, rank]; omega) (fun z4 zs4 c4 s4 P4 => ?_)
  obtain ⟨A4, C4, D4, B4, L4, M4, N4, V4, F4, E4, S4⟩ := P4
  try replace N4 := N4 rfl
  try replace S4 := S4 rfl
  simp only [prog, slack] at A4 M4
  refine ok_sign C4 (fun t5 ht5 => ?_)
  by_cases g1 : sg t5 = sIf
  · rw [if_pos g1]
    obtain ⟨s6, e6, A6, C6, D6, L6, B6⟩ := bump (ts := ts) (T.sg_lt ht5 g1 (by decide)) s4 rfl B4
    rw [e6]
    clear e6
    refine ok_call IH C6 (by omega) B6 (by omega) (by exact trivial) (by simp only [Mz, rank]; omega) (fun z7 zs7 c7 s7 P7 => ?_)
    obtain ⟨A7, C7, D7, B7, L7, M7, N7, V7, F7, E7, S7⟩ := P7
    try replace N7 := N7 rfl
    try replace S7 := S7 rfl
    simp only [prog, slack] at A7 M7
    show Post _ _ _ _ _ _ _
    exact ⟨by simp only [prog]; omega, C7, by omega, B7, by omega, by simp only [slack]; omega, fun h => by simp [isNode] at h, Valid.cons ⟨by omega, by omega⟩ (Valid.cons ⟨by omega, by omega⟩ (Valid.one ⟨by omega, by omega⟩)), by simp only [List.length_cons, List.length_nil]; omega, fun _ _ => (by simp), fun _ => (by simp)⟩
  · rw [if_neg g1]
    show Post _ _ _ _ _ _ _
    exact ⟨by simp only [prog]; omega, C4, by omega, B4, by omega, by simp only [slack]; omega, fun h => by simp [isNode] at h, Valid.cons ⟨by omega, by omega⟩ (Valid.one ⟨by omega, by omega⟩), by simp only [List.length_cons, List.length_nil]; omega, fun _ _ => (by simp), fun _ => (by simp)⟩

theorem tot_dict {ts : List Tok} {n : Nat} (T : Tk ts) (IH : Tot ts n) : ∀ s, s.at_ < ts.length → s.deep ≤ 60 → Back s.nodes → s.nodes.length ≤ 8 * s.at_ + 8 → Pre ts .dict s → Mz ts .dict s < n + 1 → Ok (Post ts .dict s) (runF ts (n + 1) .dict s) := by
  intro s h1 h2 h3 h4 hP hM
  simp only [Mz, rank] at hM
  have hfew := T.few
  have _ := IH
  show Ok _ (bodyF ts (runF ts n) _ s)
  unfold bodyF
  dsimp only
  refine ok_enter T (by decide) h1 (by omega) h3 (fun pos1 s1 A1 C1 D1 DD1 L1 B1 => ?_)
  refine ok_call IH C1 (by omega) B1 (by omega) (by exact ⟨Valid.nil _, by simp⟩) (by simp only [Mz, rank]; omega) (fun z2 zs2 c2 s2 P2 => ?_)
  obtain ⟨A2, C2, D2, B2, L2, M2, N2, V2, F2, E2, S2⟩ := P2
  try replace N2 := N2 rfl
  try replace S2 := S2 rfl
  simp only [prog, slack] at A2 M2
  refine ok_shut T (by decide) (by omega) C2 B2 (fun s3 A3 C3 D3 L3 B3 => ?_)
  refine ok_add C3 B3 (by omega) (by omega) (V2.mono (by omega)) (fun z4 s4 A4 C4 D4 L4 B4 Z4 => ?_)
  refine ok_one ?_
  exact ⟨by simp only [prog]; omega, C4, by omega, B4, by omega, by simp only [slack]; omega, fun _ => ⟨by omega, by omega⟩, Valid.nil _, by simp, fun h => by simp [full] at h, fun h => by simp [sure] at h⟩

theorem tot_pairs {ts : List Tok} {n : Nat} (T : Tk ts) (IH : Tot ts n) (zs : List Int) : ∀ s, s.at_ < ts.length → s.deep ≤ 60 → Back s.nodes → s.nodes.length ≤ 8 * s.at_ + 8 → Pre ts (.pairs zs) s → Mz ts (.pairs zs) s < n + 1 → Ok (Post ts (.pairs zs) s) (runF ts (n + 1) (.pairs zs) s) := by
  intro s h1 h2 h3 h4 hP hM
  simp only [Mz, rank] at hM
  have hfew := T.few
  have _ := IH
  show Ok _ (bodyF ts (runF ts n) _ s)
  unfold bodyF
  dsimp only
  obtain ⟨hv, hl⟩ := hP
  refine ok_sign h1 (fun t1 ht1 => ?_)
  by_cases g1 : sg t1 = [125]
  · rw [if_pos g1]
    show Post _ _ _ _ _ _ _
    exact ⟨by simp only [prog]; omega, h1, by omega, h3, by omega, by simp only [slack]; omega, fun h => by simp [isNode] at h, hv, by omega, fun h => by simp [full] at h, fun h => by simp [sure] at h⟩
  · rw [if_neg g1]
    refine ok_call IH h1 (by omega) h3 (by omega) (by exact ⟨hv, hl⟩) (by simp only [Mz, rank]; omega) (fun z2 zs2 c2 s2 P2 => ?_)
    obtain ⟨A2, C2, D2, B2, L2, M2, N2, V2, F2, E2, S2⟩ := P2
    try replace N2 := N2 rfl
    try replace S2 := S2 rfl
    simp only [prog, slack] at A2 M2
    by_cases hzz : zs2.length < 900000
    · rw [if_pos hzz]
      refine ok_sign C2 (fun t3 ht3 => ?_)
      by_cases g2 : sg t3 = [125]
      · rw [if_pos g2]
        show Post _ _ _ _ _ _ _
        exact ⟨by simp only [prog]; omega, C2, by omega, B2, by omega, by simp only [slack]; omega, fun h => by simp [isNode] at h, V2, by omega, fun h => by simp [full] at h, fun h => by simp [sure] at h⟩
      · rw [if_neg g2]
        refine ok_need T (by decide) C2 B2 (fun pos4 s4 A4 C4 D4 L4 B4 => ?_)
        refine ok_tail IH C4 (by omega) B4 (by omega) (by exact ⟨V2.mono (by omega), by omega⟩) (by simp only [Mz, rank]; omega) (fun z5 zs5 c5 s5 P5 => ?_)
        obtain ⟨A5, C5, D5, B5, L5, M5, N5, V5, F5, E5, S5⟩ := P5
        try replace N5 := N5 rfl
        try replace S5 := S5 rfl
        simp only [prog, slack] at A5 M5
        exact ⟨by simp only [prog]; omega, C5, by omega, B5, by omega, by simp only [slack]; omega, fun h => by simp [isNode] at h, V5, F5, fun h => by simp [full] at h, fun h => by simp [sure] at h⟩
    · rw [if_neg hzz]
      exact absurd (by omega) hzz

theorem tot_pair {ts : List Tok} {n : Nat} (T : Tk ts) (IH : Tot ts n) (zs : List Int) : ∀ s, s.at_ < ts.length → s.deep ≤ 60 → Back s.nodes → s.nodes.length ≤ 8 * s.at_ + 8 → Pre ts (.pair zs) s → Mz ts (.pair zs) s < n + 1 → Ok (Post ts (.pair zs) s) (runF ts (n + 1) (.pair zs) s) := by
  intro s h1 h2 h3 h4 hP hM
  simp only [Mz, rank] at hM
  have hfew := T.few
  have _ := IH
  show Ok _ (bodyF ts (runF ts n) _ s)
  unfold bodyF
  dsimp only
  obtain ⟨hv, hl⟩ := hP
  refine ok_call IH h1 (by omega) h3 (by omega) (by exact trivial) (by simp only [Mz, rank]; omega) (fun z1 zs1 c1 s1 P1 => ?_)
  obtain ⟨A1, C1, D1, B1, L1, M1, N1, V1, F1, E1, S1⟩ := P1
  try replace N1 := N1 rfl
  try replace S1 := S1 rfl
  simp only [prog, slack] at A1 M1
  refine ok_need T (by decide) C1 B1 (fun pos2 s2 A2 C2 D2 L2 B2 => ?_)
  refine ok_call IH C2 (by omega) B2 (by omega) (by exact trivial) (by simp only [Mz, rank]; omega) (fun z3 zs3 c3 s3 P3 => ?_)
  obtain ⟨A3, C3, D3, B3, L3, M3, N3, V3, F3, E3, S3⟩ := P3
  try replace N3 := N3 rfl
  try replace S3 := S3 rfl
  simp only [prog, slack] at A3 M3
  show Post _ _ _ _ _ _ _
  exact ⟨by simp only [prog]; omega, C3, by omega, B3, by omega, by simp only [slack]; omega, fun h => by simp [isNode] at h, ((hv.mono (by omega)).append (Valid.one ⟨by omega, by omega⟩)).append (Valid.one ⟨by omega, by omega⟩), by rw [List.length_append, List.length_append, List.length_singleton, List.length_singleton]; omega, fun h => by simp [full] at h, fun h => by simp [sure] at h⟩

theorem tot_textsLoop {ts : List Tok} {n : Nat} (T : Tk ts) (IH : Tot ts n) (pos : Int) (acc : List UInt8) : ∀ s, s.at_ < ts.length → s.deep ≤ 60 → Back s.nodes → s.nodes.length ≤ 8 * s.at_ + 8 → Pre ts (.textsLoop pos acc) s → Mz ts (.textsLoop pos acc) s < n + 1 → Ok (Post ts (.textsLoop pos acc) s) (runF ts (n + 1) (.textsLoop pos acc) s) := by
  intro s h1 h2 h3 h4 hP hM
  simp only [Mz, rank] at hM
  have hfew := T.few
  have htx := T.text
  simp only [Pre] at hP
  show Ok _ (bodyF ts (runF ts n) _ s)
  unfold bodyF
  dsimp only
  refine ok_next h1 (fun u hu => ?_)
  have hsum := sumT_take hu
  have hs1 := sumT_take_le ts (s.at_ + 1)
  by_cases k3 : u.kind = 3
  · rw [if_pos k3, if_pos (by omega)]
    obtain ⟨s2, e2, A2, C2, D2, L2, B2⟩ := bump (ts := ts) (T.kind_lt hu (by omega)) s rfl h3
    rw [e2]
    clear e2
    refine ok_tail IH C2 (by omega) B2 (by omega) (by simp only [Pre]; rw [A2, List.length_append]; omega) (by simp only [Mz, rank]; omega) (fun z3 zs3 c3 s3 P3 => ?_)
    obtain ⟨A3, C3, D3, B3, L3, M3, N3, V3, F3, E3, S3⟩ := P3
    simp only [prog, slack] at A3 M3
    exact ⟨by simp only [prog]; omega, C3, by omega, B3, by omega, by simp only [slack]; omega, (fun _ => N3 rfl), V3, F3, fun h => by simp [full] at h, fun h => by simp [sure] at h⟩
  · rw [if_neg k3]
    refine ok_add h1 h3 (by omega) (by simp) (Valid.nil _) (fun z1 s1 A1 C1 D1 L1 B1 Z1 => ?_)
    refine ok_one ?_
    exact ⟨by simp only [prog]; omega, C1, by omega, B1, by omega, by simp only [slack]; omega, fun _ => ⟨by omega, by omega⟩, Valid.nil _, by simp, fun h => by simp [full] at h, fun h => by simp [sure] at h⟩
theorem textsLoop_on {ts : List Tok} {n : Nat} (T : Tk ts) (IH : Tot ts n) (pos : Int) (acc : List UInt8) (s : PS) (h1 : s.at_ < ts.length) (h2 : s.deep ≤ 60) (h3 : Back s.nodes) (h4 : s.nodes.length ≤ 8 * s.at_ + 8) (hP : acc.length ≤ sumT (ts.take s.at_)) (hM : 64 * (ts.length - s.at_) < n + 1)
    (u : Tok) (hu : ts[s.at_]? = some u) (k3 : u.kind = 3) : Ok (Post ts .texts s) (runF ts (n + 1) (.textsLoop pos acc) s) := by
  have hfew := T.few
  have _ := h1
  have htx := T.text
  have hsum := sumT_take hu
  have hs1 := sumT_take_le ts (s.at_ + 1)
  show Ok _ (bodyF ts (runF ts n) _ s)
  unfold bodyF
  dsimp only
  unfold nextF
  rw [hu]
  dsimp only
  rw [if_pos k3, if_pos (by omega)]
  obtain ⟨s2, e2, A2, C2, D2, L2, B2⟩ := bump (ts := ts) (T.kind_lt hu (by omega)) s rfl h3
  rw [e2]
  clear e2
  refine ok_tail IH C2 (by omega) B2 (by omega) (by simp only [Pre]; rw [A2, List.length_append]; omega) (by simp only [Mz, rank]; omega) (fun z3 zs3 c3 s3 P3 => ?_)
  obtain ⟨A3, C3, D3, B3, L3, M3, N3, V3, F3, E3, S3⟩ := P3
  simp only [prog, slack] at A3 M3
  exact ⟨by simp only [prog]; omega, C3, by omega, B3, by omega, by simp only [slack]; omega, (fun _ => N3 rfl), V3, F3, fun h => by simp [full] at h, fun h => by simp [sure] at h⟩
theorem tot_texts {ts : List Tok} {n : Nat} (T : Tk ts) (IH : ∀ m, m ≤ n → Tot ts m) : ∀ s, s.at_ < ts.length → s.deep ≤ 60 → Back s.nodes → s.nodes.length ≤ 8 * s.at_ + 8 → Pre ts .texts s → Mz ts .texts s < n + 1 → Ok (Post ts .texts s) (runF ts (n + 1) .texts s) := by
  intro s h1 h2 h3 h4 hP hM
  simp only [Mz, rank] at hM
  obtain ⟨t, ht, k3⟩ := hP
  show Ok _ (bodyF ts (runF ts n) _ s)
  unfold bodyF
  dsimp only
  unfold nextF
  rw [ht]
  dsimp only
  rcases n with _ | m
  · omega
  · exact textsLoop_on T (IH m (by omega)) _ _ s h1 h2 h3 h4 (by simp) (by omega) t ht k3

theorem tot_file {ts : List Tok} {n : Nat} (T : Tk ts) (IH : Tot ts n) : ∀ s, s.at_ < ts.length → s.deep ≤ 60 → Back s.nodes → s.nodes.length ≤ 8 * s.at_ + 8 → Pre ts .file s → Mz ts .file s < n + 1 → Ok (Post ts .file s) (runF ts (n + 1) .file s) := by
  intro s h1 h2 h3 h4 hP hM
  simp only [Mz, rank] at hM
  have hfew := T.few
  have _ := IH
  show Ok _ (bodyF ts (runF ts n) _ s)
  unfold bodyF
  dsimp only
  refine ok_call IH h1 (by omega) h3 (by omega) (by exact ⟨Valid.nil _, by simp⟩) (by simp only [Mz, rank]; omega) (fun z1 zs1 c1 s1 P1 => ?_)
  obtain ⟨A1, C1, D1, B1, L1, M1, N1, V1, F1, E1, S1⟩ := P1
  try replace N1 := N1 rfl
  try replace S1 := S1 rfl
  simp only [prog, slack] at A1 M1
  unfold fileEnd
  rcases zs1 with _ | ⟨z, zr⟩
  · dsimp only
    refine ok_add C1 B1 (by omega) (by simp) (Valid.nil _) (fun z2 s2 A2 C2 D2 L2 B2 Z2 => ?_)
    refine ok_pos ⟨by omega, by omega⟩ (fun p => ?_)
    refine ok_add C2 B2 (by omega) (by simp) (Valid.one ⟨by omega, by omega⟩) (fun z3 s3 A3 C3 D3 L3 B3 Z3 => ?_)
    refine ok_one ?_
    exact ⟨by simp only [prog]; omega, C3, by omega, B3, by omega, by simp only [slack]; omega, fun _ => ⟨by omega, by omega⟩, Valid.nil _, by simp, fun h => by simp [full] at h, fun h => by simp [sure] at h⟩
  dsimp only
  refine ok_pos (V1 z (List.mem_cons_self ..)) (fun p => ?_)
  refine ok_add C1 B1 (by omega) (by omega) (V1) (fun z4 s4 A4 C4 D4 L4 B4 Z4 => ?_)
  refine ok_one ?_
  exact ⟨by simp only [prog]; omega, C4, by omega, B4, by omega, by simp only [slack]; omega, fun _ => ⟨by omega, by omega⟩, Valid.nil _, by simp, fun h => by simp [full] at h, fun h => by simp [sure] at h⟩

theorem tot_fileLoop {ts : List Tok} {n : Nat} (T : Tk ts) (IH : Tot ts n) (zs : List Int) : ∀ s, s.at_ < ts.length → s.deep ≤ 60 → Back s.nodes → s.nodes.length ≤ 8 * s.at_ + 8 → Pre ts (.fileLoop zs) s → Mz ts (.fileLoop zs) s < n + 1 → Ok (Post ts (.fileLoop zs) s) (runF ts (n + 1) (.fileLoop zs) s) := by
  intro s h1 h2 h3 h4 hP hM
  simp only [Mz, rank] at hM
  have hfew := T.few
  have _ := IH
  show Ok _ (bodyF ts (runF ts n) _ s)
  unfold bodyF
  dsimp only
  obtain ⟨hv, hl⟩ := hP
  refine ok_kind h1 (fun t1 ht1 => ?_)
  by_cases hk : t1.kind = 8
  · rw [if_pos hk]
    show Post _ _ _ _ _ _ _
    exact ⟨by simp only [prog]; omega, h1, by omega, h3, by omega, by simp only [slack]; omega, fun h => by simp [isNode] at h, hv, by omega, fun h => by simp [full] at h, fun h => by simp [sure] at h⟩
  · rw [if_neg hk]
    refine ok_call IH h1 (by omega) h3 (by omega) (by exact trivial) (by simp only [Mz, rank]; omega) (fun z2 zs2 c2 s2 P2 => ?_)
    obtain ⟨A2, C2, D2, B2, L2, M2, N2, V2, F2, E2, S2⟩ := P2
    try replace N2 := N2 rfl
    try replace S2 := S2 rfl
    simp only [prog, slack] at A2 M2
    by_cases hzz : zs.length < 900000
    · rw [if_pos hzz]
      refine ok_tail IH C2 (by omega) B2 (by omega) (by exact ⟨(hv.mono (by omega)).append (Valid.one ⟨by omega, by omega⟩), by rw [List.length_append, List.length_singleton]; omega⟩) (by simp only [Mz, rank]; omega) (fun z3 zs3 c3 s3 P3 => ?_)
      obtain ⟨A3, C3, D3, B3, L3, M3, N3, V3, F3, E3, S3⟩ := P3
      try replace N3 := N3 rfl
      try replace S3 := S3 rfl
      simp only [prog, slack] at A3 M3
      exact ⟨by simp only [prog]; omega, C3, by omega, B3, by omega, by simp only [slack]; omega, fun h => by simp [isNode] at h, V3, F3, fun h => by simp [full] at h, fun h => by simp [sure] at h⟩
    · rw [if_neg hzz]
      exact absurd (by omega) hzz

theorem tot_statement {ts : List Tok} {n : Nat} (T : Tk ts) (IH : Tot ts n) (p : Pl) : ∀ s, s.at_ < ts.length → s.deep ≤ 60 → Back s.nodes → s.nodes.length ≤ 8 * s.at_ + 8 → Pre ts (.statement p) s → Mz ts (.statement p) s < n + 1 → Ok (Post ts (.statement p) s) (runF ts (n + 1) (.statement p) s) := by
  intro s h1 h2 h3 h4 hP hM
  simp only [Mz, rank] at hM
  have hfew := T.few
  have _ := IH
  show Ok _ (bodyF ts (runF ts n) _ s)
  unfold bodyF
  dsimp only
  refine ok_sign h1 (fun t1 ht1 => ?_)
  by_cases g1 : sg t1 = sIf
  · rw [if_pos g1]
    refine ok_need T (by decide) h1 h3 (fun pos2 s2 A2 C2 D2 L2 B2 => ?_)
    refine ok_tail IH C2 (by omega) B2 (by omega) (by exact trivial) (by simp only [Mz, rank]; omega) (fun z3 zs3 c3 s3 P3 => ?_)
    obtain ⟨A3, C3, D3, B3, L3, M3, N3, V3, F3, E3, S3⟩ := P3
    try replace N3 := N3 rfl
    try replace S3 := S3 rfl
    simp only [prog, slack] at A3 M3
    exact ⟨by simp only [prog]; omega, C3, by omega, B3, by omega, by simp only [slack]; omega, fun _ => ⟨by omega, by omega⟩, V3, F3, fun h => by simp [full] at h, fun h => by simp [sure] at h⟩
  · rw [if_neg g1]
    by_cases g2 : sg t1 = sFor
    · rw [if_pos g2]
      refine ok_tail IH h1 (by omega) h3 (by omega) (by exact trivial) (by simp only [Mz, rank]; omega) (fun z4 zs4 c4 s4 P4 => ?_)
      obtain ⟨A4, C4, D4, B4, L4, M4, N4, V4, F4, E4, S4⟩ := P4
      try replace N4 := N4 rfl
      try replace S4 := S4 rfl
      simp only [prog, slack] at A4 M4
      exact ⟨by simp only [prog]; omega, C4, by omega, B4, by omega, by simp only [slack]; omega, fun _ => ⟨by omega, by omega⟩, V4, F4, fun h => by simp [full] at h, fun h => by simp [sure] at h⟩
    · rw [if_neg g2]
      by_cases g3 : sg t1 = [100, 101, 102]
      · rw [if_pos g3]
        refine ok_allow h1 _ (fun _ => ?_)
        refine ok_tail IH h1 (by omega) h3 (by omega) (by exact trivial) (by simp only [Mz, rank]; omega) (fun z5 zs5 c5 s5 P5 => ?_)
        obtain ⟨A5, C5, D5, B5, L5, M5, N5, V5, F5, E5, S5⟩ := P5
        try replace N5 := N5 rfl
        try replace S5 := S5 rfl
        simp only [prog, slack] at A5 M5
        exact ⟨by simp only [prog]; omega, C5, by omega, B5, by omega, by simp only [slack]; omega, fun _ => ⟨by omega, by omega⟩, V5, F5, fun h => by simp [full] at h, fun h => by simp [sure] at h⟩
      · rw [if_neg g3]
        refine ok_tail IH h1 (by omega) h3 (by omega) (by exact trivial) (by simp only [Mz, rank]; omega) (fun z6 zs6 c6 s6 P6 => ?_)
        obtain ⟨A6, C6, D6, B6, L6, M6, N6, V6, F6, E6, S6⟩ := P6
        try replace N6 := N6 rfl
        try replace S6 := S6 rfl
        simp only [prog, slack] at A6 M6
        exact ⟨by simp only [prog]; omega, C6, by omega, B6, by omega, by simp only [slack]; omega, fun _ => ⟨by omega, by omega⟩, V6, F6, fun h => by simp [full] at h, fun h => by simp [sure] at h⟩

theorem tot_line {ts : List Tok} {n : Nat} (T : Tk ts) (IH : Tot ts n) (p : Pl) : ∀ s, s.at_ < ts.length → s.deep ≤ 60 → Back s.nodes → s.nodes.length ≤ 8 * s.at_ + 8 → Pre ts (.line p) s → Mz ts (.line p) s < n + 1 → Ok (Post ts (.line p) s) (runF ts (n + 1) (.line p) s) := by
  intro s h1 h2 h3 h4 hP hM
  simp only [Mz, rank] at hM
  have hfew := T.few
  have _ := IH
  show Ok _ (bodyF ts (runF ts n) _ s)
  unfold bodyF
  dsimp only
  refine ok_call IH h1 (by omega) h3 (by omega) (by exact trivial) (by simp only [Mz, rank]; omega) (fun z1 zs1 c1 s1 P1 => ?_)
  obtain ⟨A1, C1, D1, B1, L1, M1, N1, V1, F1, E1, S1⟩ := P1
  try replace N1 := N1 rfl
  try replace S1 := S1 rfl
  simp only [prog, slack] at A1 M1
  refine ok_take T (by decide) C1 B1 (fun t2 s2 ht2 A2 C2 D2 L2 B2 => ?_)
  refine ok_one ?_
  exact ⟨by simp only [prog]; omega, C2, by omega, B2, by omega, by simp only [slack]; omega, fun _ => ⟨by omega, by omega⟩, Valid.nil _, by simp, fun h => by simp [full] at h, fun h => by simp [sure] at h⟩

theorem tot_simple {ts : List Tok} {n : Nat} (T : Tk ts) (IH : Tot ts n) (p : Pl) : ∀ s, s.at_ < ts.length → s.deep ≤ 60 → Back s.nodes → s.nodes.length ≤ 8 * s.at_ + 8 → Pre ts (.simple p) s → Mz ts (.simple p) s < n + 1 → Ok (Post ts (.simple p) s) (runF ts (n + 1) (.simple p) s) := by
  intro s h1 h2 h3 h4 hP hM
  simp only [Mz, rank] at hM
  have hfew := T.few
  have _ := IH
  show Ok _ (bodyF ts (runF ts n) _ s)
  unfold bodyF
  dsimp only
  refine ok_sign h1 (fun t1 ht1 => ?_)
  by_cases g1 : sg t1 = [112, 97, 115, 115]
  · rw [if_pos g1]
    unfold wordF
    refine ok_next h1 (fun u hu => ?_)
    obtain ⟨s2, e2, A2, C2, D2, L2, B2⟩ := bump (ts := ts) (T.sg_lt ht1 g1 (by decide)) s rfl h3
    rw [e2]
    clear e2
    refine ok_add C2 B2 (by omega) (by simp) (Valid.nil _) (fun z3 s3 A3 C3 D3 L3 B3 Z3 => ?_)
    refine ok_one ?_
    exact ⟨by simp only [prog]; omega, C3, by omega, B3, by omega, by simp only [slack]; omega, fun _ => ⟨by omega, by omega⟩, Valid.nil _, by simp, fun h => by simp [full] at h, fun h => by simp [sure] at h⟩
  · rw [if_neg g1]
    by_cases g2 : sg t1 = [98, 114, 101, 97, 107]
    · rw [if_pos g2]
      refine ok_allow h1 _ (fun _ => ?_)
      unfold wordF
      refine ok_next h1 (fun u hu => ?_)
      obtain ⟨s4, e4, A4, C4, D4, L4, B4⟩ := bump (ts := ts) (T.sg_lt ht1 g2 (by decide)) s rfl h3
      rw [e4]
      clear e4
      refine ok_add C4 B4 (by omega) (by simp) (Valid.nil _) (fun z5 s5 A5 C5 D5 L5 B5 Z5 => ?_)
      refine ok_one ?_
      exact ⟨by simp only [prog]; omega, C5, by omega, B5, by omega, by simp only [slack]; omega, fun _ => ⟨by omega, by omega⟩, Valid.nil _, by simp, fun h => by simp [full] at h, fun h => by simp [sure] at h⟩
    · rw [if_neg g2]
      by_cases g3 : sg t1 = [99, 111, 110, 116, 105, 110, 117, 101]
      · rw [if_pos g3]
        refine ok_allow h1 _ (fun _ => ?_)
        unfold wordF
        refine ok_next h1 (fun u hu => ?_)
        obtain ⟨s6, e6, A6, C6, D6, L6, B6⟩ := bump (ts := ts) (T.sg_lt ht1 g3 (by decide)) s rfl h3
        rw [e6]
        clear e6
        refine ok_add C6 B6 (by omega) (by simp) (Valid.nil _) (fun z7 s7 A7 C7 D7 L7 B7 Z7 => ?_)
        refine ok_one ?_
        exact ⟨by simp only [prog]; omega, C7, by omega, B7, by omega, by simp only [slack]; omega, fun _ => ⟨by omega, by omega⟩, Valid.nil _, by simp, fun h => by simp [full] at h, fun h => by simp [sure] at h⟩
      · rw [if_neg g3]
        by_cases g4 : sg t1 = [114, 101, 116, 117, 114, 110]
        · rw [if_pos g4]
          refine ok_allow h1 _ (fun _ => ?_)
          refine ok_tail IH h1 (by omega) h3 (by omega) (by exact trivial) (by simp only [Mz, rank]; omega) (fun z8 zs8 c8 s8 P8 => ?_)
          obtain ⟨A8, C8, D8, B8, L8, M8, N8, V8, F8, E8, S8⟩ := P8
          try replace N8 := N8 rfl
          try replace S8 := S8 rfl
          simp only [prog, slack] at A8 M8
          exact ⟨by simp only [prog]; omega, C8, by omega, B8, by omega, by simp only [slack]; omega, fun _ => ⟨by omega, by omega⟩, V8, F8, fun h => by simp [full] at h, fun h => by simp [sure] at h⟩
        · rw [if_neg g4]
          by_cases g5 : sg t1 = [108, 111, 97, 100]
          · rw [if_pos g5]
            refine ok_allow h1 _ (fun _ => ?_)
            refine ok_tail IH h1 (by omega) h3 (by omega) (by exact trivial) (by simp only [Mz, rank]; omega) (fun z9 zs9 c9 s9 P9 => ?_)
            obtain ⟨A9, C9, D9, B9, L9, M9, N9, V9, F9, E9, S9⟩ := P9
            try replace N9 := N9 rfl
            try replace S9 := S9 rfl
            simp only [prog, slack] at A9 M9
            exact ⟨by simp only [prog]; omega, C9, by omega, B9, by omega, by simp only [slack]; omega, fun _ => ⟨by omega, by omega⟩, V9, F9, fun h => by simp [full] at h, fun h => by simp [sure] at h⟩
          · rw [if_neg g5]
            refine ok_tail IH h1 (by omega) h3 (by omega) (by exact trivial) (by simp only [Mz, rank]; omega) (fun z10 zs10 c10 s10 P10 => ?_)
            obtain ⟨A10, C10, D10, B10, L10, M10, N10, V10, F10, E10, S10⟩ := P10
            try replace N10 := N10 rfl
            try replace S10 := S10 rfl
            simp only [prog, slack] at A10 M10
            exact ⟨by simp only [prog]; omega, C10, by omega, B10, by omega, by simp only [slack]; omega, fun _ => ⟨by omega, by omega⟩, V10, F10, fun h => by simp [full] at h, fun h => by simp [sure] at h⟩

theorem tot_load {ts : List Tok} {n : Nat} (T : Tk ts) (IH : Tot ts n) : ∀ s, s.at_ < ts.length → s.deep ≤ 60 → Back s.nodes → s.nodes.length ≤ 8 * s.at_ + 8 → Pre ts .load s → Mz ts .load s < n + 1 → Ok (Post ts .load s) (runF ts (n + 1) .load s) := by
  intro s h1 h2 h3 h4 hP hM
  simp only [Mz, rank] at hM
  have hfew := T.few
  have _ := IH
  show Ok _ (bodyF ts (runF ts n) _ s)
  unfold bodyF
  dsimp only
  refine ok_need T (by decide) h1 h3 (fun pos1 s1 A1 C1 D1 L1 B1 => ?_)
  refine ok_need T (by decide) C1 B1 (fun pos2 s2 A2 C2 D2 L2 B2 => ?_)
  refine ok_take T (by decide) C2 B2 (fun t3 s3 ht3 A3 C3 D3 L3 B3 => ?_)
  refine ok_need T (by decide) C3 B3 (fun pos4 s4 A4 C4 D4 L4 B4 => ?_)
  refine ok_call IH C4 (by omega) B4 (by omega) (by exact trivial) (by simp only [Mz, rank]; omega) (fun z5 zs5 c5 s5 P5 => ?_)
  obtain ⟨A5, C5, D5, B5, L5, M5, N5, V5, F5, E5, S5⟩ := P5
  try replace N5 := N5 rfl
  try replace S5 := S5 rfl
  simp only [prog, slack] at A5 M5
  refine ok_call IH C5 (by omega) B5 (by omega) (by exact ⟨Valid.one N5, by simp; omega⟩) (by simp only [Mz, rank]; omega) (fun z6 zs6 c6 s6 P6 => ?_)
  obtain ⟨A6, C6, D6, B6, L6, M6, N6, V6, F6, E6, S6⟩ := P6
  try replace N6 := N6 rfl
  try replace S6 := S6 rfl
  simp only [prog, slack] at A6 M6
  refine ok_need T (by decide) C6 B6 (fun pos7 s7 A7 C7 D7 L7 B7 => ?_)
  refine ok_add C7 B7 (by omega) (by omega) (V6.mono (by omega)) (fun z8 s8 A8 C8 D8 L8 B8 Z8 => ?_)
  refine ok_one ?_
  exact ⟨by simp only [prog]; omega, C8, by omega, B8, by omega, by simp only [slack]; omega, fun _ => ⟨by omega, by omega⟩, Valid.nil _, by simp, fun h => by simp [full] at h, fun h => by simp [sure] at h⟩

theorem tot_loadLoop {ts : List Tok} {n : Nat} (T : Tk ts) (IH : Tot ts n) (zs : List Int) : ∀ s, s.at_ < ts.length → s.deep ≤ 60 → Back s.nodes → s.nodes.length ≤ 8 * s.at_ + 8 → Pre ts (.loadLoop zs) s → Mz ts (.loadLoop zs) s < n + 1 → Ok (Post ts (.loadLoop zs) s) (runF ts (n + 1) (.loadLoop zs) s) := by
  intro s h1 h2 h3 h4 hP hM
  simp only [Mz, rank] at hM
  have hfew := T.few
  have _ := IH
  show Ok _ (bodyF ts (runF ts n) _ s)
  unfold bodyF
  dsimp only
  obtain ⟨hv, hl⟩ := hP
  refine ok_sign h1 (fun t1 ht1 => ?_)
  by_cases g1 : sg t1 = [44]
  · rw [if_pos g1]
    obtain ⟨s2, e2, A2, C2, D2, L2, B2⟩ := bump (ts := ts) (T.sg_lt ht1 g1 (by decide)) s rfl h3
    rw [e2]
    clear e2
    refine ok_sign C2 (fun t3 ht3 => ?_)
    by_cases g2 : sg t3 = [41]
    · rw [if_pos g2]
      show Post _ _ _ _ _ _ _
      exact ⟨by simp only [prog]; omega, C2, by omega, B2, by omega, by simp only [slack]; omega, fun h => by simp [isNode] at h, hv.mono (by omega), by omega, fun h => by simp [full] at h, fun h => by simp [sure] at h⟩
    · rw [if_neg g2]
      refine ok_call IH C2 (by omega) B2 (by omega) (by exact trivial) (by simp only [Mz, rank]; omega) (fun z4 zs4 c4 s4 P4 => ?_)
      obtain ⟨A4, C4, D4, B4, L4, M4, N4, V4, F4, E4, S4⟩ := P4
      try replace N4 := N4 rfl
      try replace S4 := S4 rfl
      simp only [prog, slack] at A4 M4
      by_cases hzz : zs.length < 900000
      · rw [if_pos hzz]
        refine ok_tail IH C4 (by omega) B4 (by omega) (by exact ⟨(hv.mono (by omega)).append (Valid.one ⟨by omega, by omega⟩), by rw [List.length_append, List.length_singleton]; omega⟩) (by simp only [Mz, rank]; omega) (fun z5 zs5 c5 s5 P5 => ?_)
        obtain ⟨A5, C5, D5, B5, L5, M5, N5, V5, F5, E5, S5⟩ := P5
        try replace N5 := N5 rfl
        try replace S5 := S5 rfl
        simp only [prog, slack] at A5 M5
        exact ⟨by simp only [prog]; omega, C5, by omega, B5, by omega, by simp only [slack]; omega, fun h => by simp [isNode] at h, V5, F5, fun h => by simp [full] at h, fun h => by simp [sure] at h⟩
      · rw [if_neg hzz]
        exact absurd (by omega) hzz
  · rw [if_neg g1]
    show Post _ _ _ _ _ _ _
    exact ⟨by simp only [prog]; omega, h1, by omega, h3, by omega, by simp only [slack]; omega, fun h => by simp [isNode] at h, hv, by omega, fun h => by simp [full] at h, fun h => by simp [sure] at h⟩

theorem tot_loaded {ts : List Tok} {n : Nat} (T : Tk ts) (IH : Tot ts n) : ∀ s, s.at_ < ts.length → s.deep ≤ 60 → Back s.nodes → s.nodes.length ≤ 8 * s.at_ + 8 → Pre ts .loaded s → Mz ts .loaded s < n + 1 → Ok (Post ts .loaded s) (runF ts (n + 1) .loaded s) := by
  intro s h1 h2 h3 h4 hP hM
  simp only [Mz, rank] at hM
  have hfew := T.few
  have _ := IH
  show Ok _ (bodyF ts (runF ts n) _ s)
  unfold bodyF
  dsimp only
  obtain ⟨t, ht⟩ := tk_at h1
  rw [ht]
  dsimp only
  by_cases hk : t.kind = 3
  · rw [if_pos hk]
    refine ok_allow h1 _ (fun _ => ?_)
    unfold thereF
    refine ok_take T (by decide) h1 h3 (fun t1 s1 ht1 A1 C1 D1 L1 B1 => ?_)
    refine ok_add C1 B1 (by omega) (by simp) (Valid.nil _) (fun z2 s2 A2 C2 D2 L2 B2 Z2 => ?_)
    refine ok_add C2 B2 (by omega) (by simp) (Valid.one ⟨by omega, by omega⟩) (fun z3 s3 A3 C3 D3 L3 B3 Z3 => ?_)
    refine ok_one ?_
    exact ⟨by simp only [prog]; omega, C3, by omega, B3, by omega, by simp only [slack]; omega, fun _ => ⟨by omega, by omega⟩, Valid.nil _, by simp, fun h => by simp [full] at h, fun h => by simp [sure] at h⟩
  · rw [if_neg hk]
    refine ok_take T (by decide) h1 h3 (fun t4 s4 ht4 A4 C4 D4 L4 B4 => ?_)
    refine ok_need T (by decide) C4 B4 (fun pos5 s5 A5 C5 D5 L5 B5 => ?_)
    unfold thereF
    refine ok_take T (by decide) C5 B5 (fun t6 s6 ht6 A6 C6 D6 L6 B6 => ?_)
    refine ok_add C6 B6 (by omega) (by simp) (Valid.nil _) (fun z7 s7 A7 C7 D7 L7 B7 Z7 => ?_)
    refine ok_add C7 B7 (by omega) (by simp) (Valid.one ⟨by omega, by omega⟩) (fun z8 s8 A8 C8 D8 L8 B8 Z8 => ?_)
    refine ok_one ?_
    exact ⟨by simp only [prog]; omega, C8, by omega, B8, by omega, by simp only [slack]; omega, fun _ => ⟨by omega, by omega⟩, Valid.nil _, by simp, fun h => by simp [full] at h, fun h => by simp [sure] at h⟩

theorem tot_result {ts : List Tok} {n : Nat} (T : Tk ts) (IH : Tot ts n) : ∀ s, s.at_ < ts.length → s.deep ≤ 60 → Back s.nodes → s.nodes.length ≤ 8 * s.at_ + 8 → Pre ts .result s → Mz ts .result s < n + 1 → Ok (Post ts .result s) (runF ts (n + 1) .result s) := by
  intro s h1 h2 h3 h4 hP hM
  simp only [Mz, rank] at hM
  have hfew := T.few
  have _ := IH
  show Ok _ (bodyF ts (runF ts n) _ s)
  unfold bodyF
  dsimp only
  refine ok_need T (by decide) h1 h3 (fun pos1 s1 A1 C1 D1 L1 B1 => ?_)
  refine ok_begins C1 (fun b => ?_)
  by_cases hb : b = true
  · rw [if_pos hb]
    refine ok_call IH C1 (by omega) B1 (by omega) (by exact trivial) (by simp only [Mz, rank]; omega) (fun z2 zs2 c2 s2 P2 => ?_)
    obtain ⟨A2, C2, D2, B2, L2, M2, N2, V2, F2, E2, S2⟩ := P2
    try replace N2 := N2 rfl
    try replace S2 := S2 rfl
    simp only [prog, slack] at A2 M2
    refine ok_add C2 B2 (by omega) (by simp) (Valid.one ⟨by omega, by omega⟩) (fun z3 s3 A3 C3 D3 L3 B3 Z3 => ?_)
    refine ok_one ?_
    exact ⟨by simp only [prog]; omega, C3, by omega, B3, by omega, by simp only [slack]; omega, fun _ => ⟨by omega, by omega⟩, Valid.nil _, by simp, fun h => by simp [full] at h, fun h => by simp [sure] at h⟩
  · rw [if_neg hb]
    refine ok_add C1 B1 (by omega) (by simp) (Valid.nil _) (fun z4 s4 A4 C4 D4 L4 B4 Z4 => ?_)
    refine ok_one ?_
    exact ⟨by simp only [prog]; omega, C4, by omega, B4, by omega, by simp only [slack]; omega, fun _ => ⟨by omega, by omega⟩, Valid.nil _, by simp, fun h => by simp [full] at h, fun h => by simp [sure] at h⟩

theorem tot_cond {ts : List Tok} {n : Nat} (T : Tk ts) (IH : Tot ts n) (pos : Int) (p : Pl) : ∀ s, s.at_ < ts.length → s.deep ≤ 60 → Back s.nodes → s.nodes.length ≤ 8 * s.at_ + 8 → Pre ts (.cond pos p) s → Mz ts (.cond pos p) s < n + 1 → Ok (Post ts (.cond pos p) s) (runF ts (n + 1) (.cond pos p) s) := by
  intro s h1 h2 h3 h4 hP hM
  simp only [Mz, rank] at hM
  have hfew := T.few
  have _ := IH
  show Ok _ (bodyF ts (runF ts n) _ s)
  unfold bodyF
  dsimp only
  refine ok_call IH h1 (by omega) h3 (by omega) (by exact trivial) (by simp only [Mz, rank]; omega) (fun z1 zs1 c1 s1 P1 => ?_)
  obtain ⟨A1, C1, D1, B1, L1, M1, N1, V1, F1, E1, S1⟩ := P1
  try replace N1 := N1 rfl
  try replace S1 := S1 rfl
  simp only [prog, slack] at A1 M1
  refine ok_call IH C1 (by omega) B1 (by omega) (by exact trivial) (by simp only [Mz, rank]; omega) (fun z2 zs2 c2 s2 P2 => ?_)
  obtain ⟨A2, C2, D2, B2, L2, M2, N2, V2, F2, E2, S2⟩ := P2
  try replace N2 := N2 rfl
  try replace S2 := S2 rfl
  simp only [prog, slack] at A2 M2
  refine ok_sign C2 (fun t3 ht3 => ?_)
  by_cases g1 : sg t3 = sElif
  · rw [if_pos g1]
    refine ok_call IH C2 (by omega) B2 (by omega) (by exact trivial) (by simp only [Mz, rank]; omega) (fun z4 zs4 c4 s4 P4 => ?_)
    obtain ⟨A4, C4, D4, B4, L4, M4, N4, V4, F4, E4, S4⟩ := P4
    try replace N4 := N4 rfl
    try replace S4 := S4 rfl
    simp only [prog, slack] at A4 M4
    refine ok_add C4 B4 (by omega) (by simp) (Valid.cons ⟨by omega, by omega⟩ (Valid.cons ⟨by omega, by omega⟩ (Valid.one ⟨by omega, by omega⟩))) (fun z5 s5 A5 C5 D5 L5 B5 Z5 => ?_)
    refine ok_one ?_
    exact ⟨by simp only [prog]; omega, C5, by omega, B5, by omega, by simp only [slack]; omega, fun _ => ⟨by omega, by omega⟩, Valid.nil _, by simp, fun h => by simp [full] at h, fun h => by simp [sure] at h⟩
  · rw [if_neg g1]
    by_cases g2 : sg t3 = sElse
    · rw [if_pos g2]
      obtain ⟨s6, e6, A6, C6, D6, L6, B6⟩ := bump (ts := ts) (T.sg_lt ht3 g2 (by decide)) s2 rfl B2
      rw [e6]
      clear e6
      refine ok_call IH C6 (by omega) B6 (by omega) (by exact trivial) (by simp only [Mz, rank]; omega) (fun z7 zs7 c7 s7 P7 => ?_)
      obtain ⟨A7, C7, D7, B7, L7, M7, N7, V7, F7, E7, S7⟩ := P7
      try replace N7 := N7 rfl
      try replace S7 := S7 rfl
      simp only [prog, slack] at A7 M7
      refine ok_add C7 B7 (by omega) (by simp) (Valid.cons ⟨by omega, by omega⟩ (Valid.cons ⟨by omega, by omega⟩ (Valid.one ⟨by omega, by omega⟩))) (fun z8 s8 A8 C8 D8 L8 B8 Z8 => ?_)
      refine ok_one ?_
      exact ⟨by simp only [prog]; omega, C8, by omega, B8, by omega, by simp only [slack]; omega, fun _ => ⟨by omega, by omega⟩, Valid.nil _, by simp, fun h => by simp [full] at h, fun h => by simp [sure] at h⟩
    · rw [if_neg g2]
      refine ok_add C2 B2 (by omega) (by simp) (Valid.cons ⟨by omega, by omega⟩ (Valid.one ⟨by omega, by omega⟩)) (fun z9 s9 A9 C9 D9 L9 B9 Z9 => ?_)
      refine ok_one ?_
      exact ⟨by simp only [prog]; omega, C9, by omega, B9, by omega, by simp only [slack]; omega, fun _ => ⟨by omega, by omega⟩, Valid.nil _, by simp, fun h => by simp [full] at h, fun h => by simp [sure] at h⟩

theorem tot_elif {ts : List Tok} {n : Nat} (T : Tk ts) (IH : Tot ts n) (p : Pl) : ∀ s, s.at_ < ts.length → s.deep ≤ 60 → Back s.nodes → s.nodes.length ≤ 8 * s.at_ + 8 → Pre ts (.elif p) s → Mz ts (.elif p) s < n + 1 → Ok (Post ts (.elif p) s) (runF ts (n + 1) (.elif p) s) := by
  intro s h1 h2 h3 h4 hP hM
  simp only [Mz, rank] at hM
  have hfew := T.few
  have _ := IH
  show Ok _ (bodyF ts (runF ts n) _ s)
  unfold bodyF
  dsimp only
  refine ok_enter T (by decide) h1 (by omega) h3 (fun pos1 s1 A1 C1 D1 DD1 L1 B1 => ?_)
  refine ok_call IH C1 (by omega) B1 (by omega) (by exact trivial) (by simp only [Mz, rank]; omega) (fun z2 zs2 c2 s2 P2 => ?_)
  obtain ⟨A2, C2, D2, B2, L2, M2, N2, V2, F2, E2, S2⟩ := P2
  try replace N2 := N2 rfl
  try replace S2 := S2 rfl
  simp only [prog, slack] at A2 M2
  refine ok_leave (by omega) C2 B2 (fun s3 A3 C3 D3 L3 B3 => ?_)
  refine ok_block C3 B3 (by omega) (by first | omega | simp) (Valid.one ⟨by omega, by omega⟩) (by simp) (fun z4 s4 A4 C4 D4 L4 B4 N4 => ?_)
  exact ⟨by simp only [prog]; omega, C4, by omega, B4, by omega, by simp only [slack]; omega, fun _ => ⟨by omega, by omega⟩, Valid.nil _, by simp, fun h => by simp [full] at h, fun h => by simp [sure] at h⟩

theorem tot_loop {ts : List Tok} {n : Nat} (T : Tk ts) (IH : Tot ts n) (p : Pl) : ∀ s, s.at_ < ts.length → s.deep ≤ 60 → Back s.nodes → s.nodes.length ≤ 8 * s.at_ + 8 → Pre ts (.loop p) s → Mz ts (.loop p) s < n + 1 → Ok (Post ts (.loop p) s) (runF ts (n + 1) (.loop p) s) := by
  intro s h1 h2 h3 h4 hP hM
  simp only [Mz, rank] at hM
  have hfew := T.few
  have _ := IH
  show Ok _ (bodyF ts (runF ts n) _ s)
  unfold bodyF
  dsimp only
  refine ok_need T (by decide) h1 h3 (fun pos1 s1 A1 C1 D1 L1 B1 => ?_)
  refine ok_call IH C1 (by omega) B1 (by omega) (by exact trivial) (by simp only [Mz, rank]; omega) (fun z2 zs2 c2 s2 P2 => ?_)
  obtain ⟨A2, C2, D2, B2, L2, M2, N2, V2, F2, E2, S2⟩ := P2
  try replace N2 := N2 rfl
  try replace S2 := S2 rfl
  simp only [prog, slack] at A2 M2
  refine ok_need T (by decide) C2 B2 (fun pos3 s3 A3 C3 D3 L3 B3 => ?_)
  refine ok_call IH C3 (by omega) B3 (by omega) (by exact trivial) (by simp only [Mz, rank]; omega) (fun z4 zs4 c4 s4 P4 => ?_)
  obtain ⟨A4, C4, D4, B4, L4, M4, N4, V4, F4, E4, S4⟩ := P4
  try replace N4 := N4 rfl
  try replace S4 := S4 rfl
  simp only [prog, slack] at A4 M4
  refine ok_call IH C4 (by omega) B4 (by omega) (by exact trivial) (by simp only [Mz, rank]; omega) (fun z5 zs5 c5 s5 P5 => ?_)
  obtain ⟨A5, C5, D5, B5, L5, M5, N5, V5, F5, E5, S5⟩ := P5
  try replace N5 := N5 rfl
  try replace S5 := S5 rfl
  simp only [prog, slack] at A5 M5
  refine ok_add C5 B5 (by omega) (by simp) (Valid.cons ⟨by omega, by omega⟩ (Valid.cons ⟨by omega, by omega⟩ (Valid.one ⟨by omega, by omega⟩))) (fun z6 s6 A6 C6 D6 L6 B6 Z6 => ?_)
  refine ok_one ?_
  exact ⟨by simp only [prog]; omega, C6, by omega, B6, by omega, by simp only [slack]; omega, fun _ => ⟨by omega, by omega⟩, Valid.nil _, by simp, fun h => by simp [full] at h, fun h => by simp [sure] at h⟩

theorem tot_block {ts : List Tok} {n : Nat} (T : Tk ts) (IH : Tot ts n) (p : Pl) : ∀ s, s.at_ < ts.length → s.deep ≤ 60 → Back s.nodes → s.nodes.length ≤ 8 * s.at_ + 8 → Pre ts (.block p) s → Mz ts (.block p) s < n + 1 → Ok (Post ts (.block p) s) (runF ts (n + 1) (.block p) s) := by
  intro s h1 h2 h3 h4 hP hM
  simp only [Mz, rank] at hM
  have hfew := T.few
  have _ := IH
  show Ok _ (bodyF ts (runF ts n) _ s)
  unfold bodyF
  dsimp only
  refine ok_enter T (by decide) h1 (by omega) h3 (fun pos1 s1 A1 C1 D1 DD1 L1 B1 => ?_)
  refine ok_kind C1 (fun t2 ht2 => ?_)
  by_cases hk : t2.kind = 5
  · rw [if_pos hk]
    refine ok_call IH C1 (by omega) B1 (by omega) (by exact trivial) (by simp only [Mz, rank]; omega) (fun z3 zs3 c3 s3 P3 => ?_)
    obtain ⟨A3, C3, D3, B3, L3, M3, N3, V3, F3, E3, S3⟩ := P3
    try replace N3 := N3 rfl
    try replace S3 := S3 rfl
    simp only [prog, slack] at A3 M3
    refine ok_leave (by omega) C3 B3 (fun s4 A4 C4 D4 L4 B4 => ?_)
    refine ok_block C4 B4 (by omega) (by first | omega | simp) (V3.mono (by omega)) S3 (fun z5 s5 A5 C5 D5 L5 B5 N5 => ?_)
    exact ⟨by simp only [prog]; omega, C5, by omega, B5, by omega, by simp only [slack]; omega, fun _ => ⟨by omega, by omega⟩, Valid.nil _, by simp, fun h => by simp [full] at h, fun h => by simp [sure] at h⟩
  · rw [if_neg hk]
    refine ok_call IH C1 (by omega) B1 (by omega) (by exact trivial) (by simp only [Mz, rank]; omega) (fun z6 zs6 c6 s6 P6 => ?_)
    obtain ⟨A6, C6, D6, B6, L6, M6, N6, V6, F6, E6, S6⟩ := P6
    try replace N6 := N6 rfl
    try replace S6 := S6 rfl
    simp only [prog, slack] at A6 M6
    refine ok_leave (by omega) C6 B6 (fun s7 A7 C7 D7 L7 B7 => ?_)
    refine ok_block C7 B7 (by omega) (by first | omega | simp) (Valid.one ⟨by omega, by omega⟩) (by simp) (fun z8 s8 A8 C8 D8 L8 B8 N8 => ?_)
    exact ⟨by simp only [prog]; omega, C8, by omega, B8, by omega, by simp only [slack]; omega, fun _ => ⟨by omega, by omega⟩, Valid.nil _, by simp, fun h => by simp [full] at h, fun h => by simp [sure] at h⟩

theorem tot_lines {ts : List Tok} {n : Nat} (T : Tk ts) (IH : Tot ts n) (p : Pl) : ∀ s, s.at_ < ts.length → s.deep ≤ 60 → Back s.nodes → s.nodes.length ≤ 8 * s.at_ + 8 → Pre ts (.lines p) s → Mz ts (.lines p) s < n + 1 → Ok (Post ts (.lines p) s) (runF ts (n + 1) (.lines p) s) := by
  intro s h1 h2 h3 h4 hP hM
  simp only [Mz, rank] at hM
  have hfew := T.few
  have _ := IH
  show Ok _ (bodyF ts (runF ts n) _ s)
  unfold bodyF
  dsimp only
  refine ok_take T (by decide) h1 h3 (fun t1 s1 ht1 A1 C1 D1 L1 B1 => ?_)
  refine ok_take T (by decide) C1 B1 (fun t2 s2 ht2 A2 C2 D2 L2 B2 => ?_)
  refine ok_call IH C2 (by omega) B2 (by omega) (by exact trivial) (by simp only [Mz, rank]; omega) (fun z3 zs3 c3 s3 P3 => ?_)
  obtain ⟨A3, C3, D3, B3, L3, M3, N3, V3, F3, E3, S3⟩ := P3
  try replace N3 := N3 rfl
  try replace S3 := S3 rfl
  simp only [prog, slack] at A3 M3
  refine ok_tail IH C3 (by omega) B3 (by omega) (by exact ⟨⟨Valid.one ⟨by omega, by omega⟩, by simp; omega⟩, by simp⟩) (by simp only [Mz, rank]; omega) (fun z4 zs4 c4 s4 P4 => ?_)
  obtain ⟨A4, C4, D4, B4, L4, M4, N4, V4, F4, E4, S4⟩ := P4
  try replace N4 := N4 rfl
  try replace S4 := S4 rfl
  simp only [prog, slack] at A4 M4
  exact ⟨by simp only [prog]; omega, C4, by omega, B4, by omega, by simp only [slack]; omega, fun h => by simp [isNode] at h, V4, F4, fun _ _ => S4, fun _ => S4⟩

theorem tot_linesLoop {ts : List Tok} {n : Nat} (T : Tk ts) (IH : Tot ts n) (p : Pl) (zs : List Int) : ∀ s, s.at_ < ts.length → s.deep ≤ 60 → Back s.nodes → s.nodes.length ≤ 8 * s.at_ + 8 → Pre ts (.linesLoop p zs) s → Mz ts (.linesLoop p zs) s < n + 1 → Ok (Post ts (.linesLoop p zs) s) (runF ts (n + 1) (.linesLoop p zs) s) := by
  intro s h1 h2 h3 h4 hP hM
  simp only [Mz, rank] at hM
  have hfew := T.few
  have _ := IH
  show Ok _ (bodyF ts (runF ts n) _ s)
  unfold bodyF
  dsimp only
  obtain ⟨⟨hv, hl⟩, hne⟩ := hP
  refine ok_kind h1 (fun t1 ht1 => ?_)
  by_cases hk : t1.kind = 7
  · rw [if_pos hk]
    refine ok_take T (by decide) h1 h3 (fun t2 s2 ht2 A2 C2 D2 L2 B2 => ?_)
    show Post _ _ _ _ _ _ _
    exact ⟨by simp only [prog]; omega, C2, by omega, B2, by omega, by simp only [slack]; omega, fun h => by simp [isNode] at h, hv.mono (by omega), by omega, fun _ _ => hne, fun _ => hne⟩
  · rw [if_neg hk]
    refine ok_call IH h1 (by omega) h3 (by omega) (by exact trivial) (by simp only [Mz, rank]; omega) (fun z3 zs3 c3 s3 P3 => ?_)
    obtain ⟨A3, C3, D3, B3, L3, M3, N3, V3, F3, E3, S3⟩ := P3
    try replace N3 := N3 rfl
    try replace S3 := S3 rfl
    simp only [prog, slack] at A3 M3
    by_cases hzz : zs.length < 900000
    · rw [if_pos hzz]
      refine ok_tail IH C3 (by omega) B3 (by omega) (by exact ⟨⟨(hv.mono (by omega)).append (Valid.one ⟨by omega, by omega⟩), by rw [List.length_append, List.length_singleton]; omega⟩, by simp⟩) (by simp only [Mz, rank]; omega) (fun z4 zs4 c4 s4 P4 => ?_)
      obtain ⟨A4, C4, D4, B4, L4, M4, N4, V4, F4, E4, S4⟩ := P4
      try replace N4 := N4 rfl
      try replace S4 := S4 rfl
      simp only [prog, slack] at A4 M4
      exact ⟨by simp only [prog]; omega, C4, by omega, B4, by omega, by simp only [slack]; omega, fun h => by simp [isNode] at h, V4, F4, fun _ _ => S4, fun _ => S4⟩
    · rw [if_neg hzz]
      exact absurd (by omega) hzz

theorem tot_assignment {ts : List Tok} {n : Nat} (T : Tk ts) (IH : Tot ts n) : ∀ s, s.at_ < ts.length → s.deep ≤ 60 → Back s.nodes → s.nodes.length ≤ 8 * s.at_ + 8 → Pre ts .assignment s → Mz ts .assignment s < n + 1 → Ok (Post ts .assignment s) (runF ts (n + 1) .assignment s) := by
  intro s h1 h2 h3 h4 hP hM
  simp only [Mz, rank] at hM
  have hfew := T.few
  have _ := IH
  show Ok _ (bodyF ts (runF ts n) _ s)
  unfold bodyF
  dsimp only
  refine ok_call IH h1 (by omega) h3 (by omega) (by exact trivial) (by simp only [Mz, rank]; omega) (fun z1 zs1 c1 s1 P1 => ?_)
  obtain ⟨A1, C1, D1, B1, L1, M1, N1, V1, F1, E1, S1⟩ := P1
  try replace N1 := N1 rfl
  try replace S1 := S1 rfl
  simp only [prog, slack] at A1 M1
  refine ok_sign C1 (fun t2 ht2 => ?_)
  by_cases g1 : sg t2 = [61]
  · rw [if_pos g1]
    obtain ⟨b, hb⟩ := targetF_some B1 (s1.nodes.length + 1) z1 N1.1 N1.2 (by omega)
    rw [hb]
    dsimp only
    refine ok_allow C1 _ (fun _ => ?_)
    refine ok_next C1 (fun u hu => ?_)
    obtain ⟨s3, e3, A3, C3, D3, L3, B3⟩ := bump (ts := ts) (T.sg_lt ht2 g1 (by decide)) s1 rfl B1
    rw [e3]
    clear e3
    refine ok_call IH C3 (by omega) B3 (by omega) (by exact trivial) (by simp only [Mz, rank]; omega) (fun z4 zs4 c4 s4 P4 => ?_)
    obtain ⟨A4, C4, D4, B4, L4, M4, N4, V4, F4, E4, S4⟩ := P4
    try replace N4 := N4 rfl
    try replace S4 := S4 rfl
    simp only [prog, slack] at A4 M4
    refine ok_add C4 B4 (by omega) (by simp) (Valid.cons ⟨by omega, by omega⟩ (Valid.one ⟨by omega, by omega⟩)) (fun z5 s5 A5 C5 D5 L5 B5 Z5 => ?_)
    refine ok_one ?_
    exact ⟨by simp only [prog]; omega, C5, by omega, B5, by omega, by simp only [slack]; omega, fun _ => ⟨by omega, by omega⟩, Valid.nil _, by simp, fun h => by simp [full] at h, fun h => by simp [sure] at h⟩
  · rw [if_neg g1]
    by_cases g2 : sg t2 = [43, 61]
    · rw [if_pos g2]
      rw [if_neg (by omega)]
      obtain ⟨x, hx⟩ : ∃ x, s1.nodes[z1.toNat]? = some x := ⟨_, List.getElem?_eq_getElem (by omega)⟩
      rw [hx]
      dsimp only
      refine ok_allow C1 _ (fun _ => ?_)
      refine ok_next C1 (fun u hu => ?_)
      obtain ⟨s6, e6, A6, C6, D6, L6, B6⟩ := bump (ts := ts) (T.sg_lt ht2 g2 (by decide)) s1 rfl B1
      rw [e6]
      clear e6
      refine ok_call IH C6 (by omega) B6 (by omega) (by exact trivial) (by simp only [Mz, rank]; omega) (fun z7 zs7 c7 s7 P7 => ?_)
      obtain ⟨A7, C7, D7, B7, L7, M7, N7, V7, F7, E7, S7⟩ := P7
      try replace N7 := N7 rfl
      try replace S7 := S7 rfl
      simp only [prog, slack] at A7 M7
      refine ok_add C7 B7 (by omega) (by simp) (Valid.cons ⟨by omega, by omega⟩ (Valid.one ⟨by omega, by omega⟩)) (fun z8 s8 A8 C8 D8 L8 B8 Z8 => ?_)
      refine ok_one ?_
      exact ⟨by simp only [prog]; omega, C8, by omega, B8, by omega, by simp only [slack]; omega, fun _ => ⟨by omega, by omega⟩, Valid.nil _, by simp, fun h => by simp [full] at h, fun h => by simp [sure] at h⟩
    · rw [if_neg g2]
      refine ok_pos N1 (fun p => ?_)
      refine ok_add C1 B1 (by omega) (by simp) (Valid.one N1) (fun z9 s9 A9 C9 D9 L9 B9 Z9 => ?_)
      refine ok_one ?_
      exact ⟨by simp only [prog]; omega, C9, by omega, B9, by omega, by simp only [slack]; omega, fun _ => ⟨by omega, by omega⟩, Valid.nil _, by simp, fun h => by simp [full] at h, fun h => by simp [sure] at h⟩
theorem tot_all {ts : List Tok} (T : Tk ts) (n : Nat) : Tot ts n := by
  induction n using Nat.strongRecOn with
  | _ n ih =>
    rcases n with _ | m
    · intro q s _ _ _ _ _ hM
      omega
    have IH : Tot ts m := ih m (by omega)
    intro q
    cases q with
    | test  => exact tot_test T IH 
    | bin k => exact tot_bin T IH k
    | binLoop k z => exact tot_binLoop T IH k z
    | not  => exact tot_not T IH 
    | ahead k => exact tot_ahead T IH k
    | compare  => exact tot_compare T IH 
    | unary  => exact tot_unary T IH 
    | primary  => exact tot_primary T IH 
    | primLoop z => exact tot_primLoop T IH z
    | atom  => exact tot_atom T IH 
    | row k => exact tot_row T IH k
    | rowLoop k zs c => exact tot_rowLoop T IH k zs c
    | orNone  => exact tot_orNone T IH 
    | bare k => exact tot_bare T IH k
    | round k => exact tot_round T IH k
    | def_  => exact tot_def T IH 
    | params zs names given => exact tot_params T IH zs names given
    | param names given => exact tot_param T IH names given
    | call z => exact tot_call T IH z
    | args zs names => exact tot_args T IH zs names
    | argument names => exact tot_argument T IH names
    | dot z => exact tot_dot T IH z
    | index z => exact tot_index T IH z
    | bound k => exact tot_bound T IH k
    | list  => exact tot_list T IH 
    | rounds  => exact tot_rounds T IH 
    | target  => exact tot_target T IH 
    | result  => exact tot_result T IH 
    | texts => exact tot_texts T (fun k hk => ih k (by omega))
    | textsLoop pos acc => exact tot_textsLoop T IH pos acc
    | dict  => exact tot_dict T IH 
    | pairs zs => exact tot_pairs T IH zs
    | pair zs => exact tot_pair T IH zs
    | alone => intro s _ _ _ _ hP; exact hP.elim
    | file  => exact tot_file T IH 
    | fileLoop zs => exact tot_fileLoop T IH zs
    | statement p => exact tot_statement T IH p
    | line p => exact tot_line T IH p
    | simple p => exact tot_simple T IH p
    | assignment  => exact tot_assignment T IH 
    | load  => exact tot_load T IH 
    | loadLoop zs => exact tot_loadLoop T IH zs
    | loaded  => exact tot_loaded T IH 
    | cond pos p => exact tot_cond T IH pos p
    | elif p => exact tot_elif T IH p
    | loop p => exact tot_loop T IH p
    | block p => exact tot_block T IH p
    | lines p => exact tot_lines T IH p
    | linesLoop p zs => exact tot_linesLoop T IH p zs
end Px
end Go.Proofs.YtpjjofdphlgeiaaGreatDoor
