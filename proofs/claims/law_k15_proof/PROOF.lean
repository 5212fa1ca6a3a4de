import PyProof.Rows.All
import Wide.All
import OpenK.AllK
import Wide.FinOn
import HandS.ForMost
import HandS.ForExc
import HandS.Conv
import HandS.More
import HandS.SortInts
import HandS.SortRule
import HandS.TupLen
import HandS.IsInst
import HandS.HotCalls
import HandS.ExcIs
import HandS.FStr
import HandS.RaiseMore
import HandS.SetFor
import HandS.TupSets
import PySem.Challenge.RW_arrowties_k15_whole_asked_in_any_order
import HandS.Deep
import KE.KDictSum
import HandS.Style
import KE.DataMinMax
import HandS.SortKw
import HandS.SetKeys
import HandS.Flow
import HandS.TryOnly
import HandS.Words
import HandS.Ends
import HandS.Head0
import HandS.Head1
import HandS.Head2
import HandS.HeadEnd
import HandS.HeadHook1
set_option Elab.async false
set_option linter.all false
set_option maxRecDepth 100000
section
set_option maxHeartbeats 2000000
/-! tables of sets with a mask of 2^j - 1, j at most eleven: the way of a hash, one more put in, all laid anew -/
namespace SB
open PySem PySem.Spec PyProof.Rows L2

/-! the round of 5 i + 1 meets every number below 2^j -/
def aN : Nat → Nat
  | 0 => 0
  | n + 1 => aN n * 5 + 1
theorem pow5 : ∀ n, ∃ r, 5 ^ n = 4 * r + 1
  | 0 => ⟨0, rfl⟩
  | n + 1 => by
    obtain ⟨r, e⟩ := pow5 n
    exact ⟨5 * r + 1, by rw [Nat.pow_succ, e]; omega⟩
theorem aN_add (k : Nat) : ∀ n, aN (n + k) = 5 ^ n * aN k + aN n
  | 0 => by rw [Nat.zero_add, Nat.pow_zero, Nat.one_mul]; rfl
  | n + 1 => by
    rw [show n + 1 + k = (n + k) + 1 by omega]
    show aN (n + k) * 5 + 1 = 5 ^ (n + 1) * aN k + (aN n * 5 + 1)
    rw [aN_add k n, Nat.pow_succ, Nat.add_mul, Nat.mul_right_comm, Nat.add_assoc]
theorem aN_two : ∀ j, ∃ q, aN (2 ^ j) = 2 ^ j * (2 * q + 1)
  | 0 => ⟨0, rfl⟩
  | j + 1 => by
    obtain ⟨q, e⟩ := aN_two j
    obtain ⟨r, f⟩ := pow5 (2 ^ j)
    refine ⟨2 * (q * r) + q + r, ?_⟩
    rw [show 2 ^ (j + 1) = 2 ^ j + 2 ^ j by rw [Nat.pow_succ]; omega, aN_add, e, f]
    generalize 2 ^ j = K
    grind
theorem aN_step (j n : Nat) : aN (n + 2 ^ j) % 2 ^ (j + 1) = (aN n + 2 ^ j) % 2 ^ (j + 1) := by
  obtain ⟨q, e⟩ := aN_two j
  obtain ⟨r, f⟩ := pow5 n
  rw [aN_add, e, f, Nat.pow_succ]
  generalize 2 ^ j = K
  have : (4 * r + 1) * (K * (2 * q + 1)) + aN n = aN n + K + K * 2 * (4 * (r * q) + 2 * r + q) := by grind
  rw [this, Nat.add_mul_mod_self_left]
theorem aN_all : ∀ (j r : Nat), r < 2 ^ j → ∃ n, n < 2 ^ j ∧ aN n % 2 ^ j = r
  | 0, r, h => ⟨0, by decide, by have : r = 0 := by simpa using h
                                 rw [this]; rfl⟩
  | j + 1, r, h => by
    obtain ⟨n, hn, e⟩ := aN_all j (r % 2 ^ j) (Nat.mod_lt _ (Nat.two_pow_pos j))
    have hs := aN_step j n
    have hx : aN n % 2 ^ (j + 1) < 2 ^ (j + 1) := Nat.mod_lt _ (Nat.two_pow_pos _)
    have hm : aN n % 2 ^ (j + 1) % 2 ^ j = r % 2 ^ j := by rw [Nat.mod_mod_of_dvd _ (Nat.pow_dvd_pow 2 (Nat.le_succ j)), e]
    rw [← Nat.mod_add_mod] at hs
    have hp : 2 ^ (j + 1) = 2 ^ j + 2 ^ j := by rw [Nat.pow_succ]; omega
    have hK := Nat.two_pow_pos j
    generalize hxx : aN n % 2 ^ (j + 1) = x at *
    rw [hp] at h hx hs ⊢
    rw [hp] at hxx
    clear hp
    generalize 2 ^ j = K at *
    have hxm : x % K = if x < K then x else x - K := by
      split
      · exact Nat.mod_eq_of_lt (by assumption)
      · rw [Nat.mod_eq_sub_mod (by omega), Nat.mod_eq_of_lt (by omega)]
    have hrm : r % K = if r < K then r else r - K := by
      split
      · exact Nat.mod_eq_of_lt (by assumption)
      · rw [Nat.mod_eq_sub_mod (by omega), Nat.mod_eq_of_lt (by omega)]
    rw [hxm, hrm] at hm
    by_cases c : x = r
    · exact ⟨n, by omega, by rw [hxx, c]⟩
    · refine ⟨n + K, by omega, ?_⟩
      rw [hs]
      by_cases d : x < K
      · rw [Nat.mod_eq_of_lt (by omega)]
        split at hm <;> split at hm <;> omega
      · rw [Nat.mod_eq_sub_mod (by omega), Nat.mod_eq_of_lt (by omega)]
        split at hm <;> split at hm <;> omega
/-- a mask: 2^j - 1 -/
def Msk (m : Nat) : Prop := ∃ j, m + 1 = 2 ^ j ∧ 1 ≤ j ∧ j ≤ 12
theorem Msk.odd {m : Nat} (h : Msk m) : m % 2 = 1 := by
  obtain ⟨j, e, h1, _⟩ := h
  obtain ⟨i, rfl⟩ : ∃ i, j = i + 1 := ⟨j - 1, by omega⟩
  rw [Nat.pow_succ] at e
  omega
theorem Msk.le {m : Nat} (h : Msk m) : m ≤ 4095 := by
  obtain ⟨j, e, _, h2⟩ := h
  have := Nat.pow_le_pow_right (n := 2) (by decide) h2
  omega
theorem round_aN (m : Nat) : ∀ k, lcgN m k = aN k % (m + 1)
  | 0 => by rw [show aN 0 = 0 from rfl, Nat.zero_mod]; rfl
  | k + 1 => by
    show (lcgN m k * 5 + 1) % (m + 1) = (aN k * 5 + 1) % (m + 1)
    rw [round_aN m k, Nat.add_mod, Nat.mul_mod, Nat.mod_mod, ← Nat.mul_mod, ← Nat.add_mod]
theorem Msk.back {m : Nat} (h : Msk m) (b : Nat) : lcgN m (b + (m + 1)) = lcgN m b := by
  obtain ⟨j, e, _⟩ := h
  obtain ⟨q, f⟩ := aN_two j
  rw [round_aN, round_aN, aN_add, e, f, Nat.mul_left_comm, Nat.mul_add_mod]
/-- from anywhere each number is met within a round -/
theorem Msk.meets {m : Nat} (h : Msk m) {i j : Nat} (hi : i ≤ m) (hj : j ≤ m) : ∃ k, k ≤ m ∧ lcgI m i k = j := by
  have hall : ∀ x, x ≤ m → ∃ b, b ≤ m ∧ lcgN m b = x := fun x hx => by
    obtain ⟨l, e, _⟩ := id h
    obtain ⟨n, hn, en⟩ := aN_all l x (by omega)
    exact ⟨n, by omega, by rw [round_aN, e]; exact en⟩
  obtain ⟨a, ha, rfl⟩ := hall i hi
  obtain ⟨b, hb, rfl⟩ := hall j hj
  by_cases c : a ≤ b
  · exact ⟨b - a, by omega, by rw [lcgN_add, show a + (b - a) = b by omega]⟩
  · exact ⟨b + (m + 1) - a, by omega, by rw [lcgN_add, show a + (b + (m + 1) - a) = b + (m + 1) by omega, h.back]⟩
theorem Msk.run {m : Nat} (hm : Msk m) (h : Int) {j : Nat} (hj : j ≤ m) : ∃ n, n ≤ m + 12 ∧ runI m (SetTable.bits h) n = j := by
  obtain ⟨k, hk, e⟩ := hm.meets (runI_le m (SetTable.bits h) 12) hj
  refine ⟨12 + k, by omega, ?_⟩
  rw [runI_tail (bits_lt h), e]
theorem Msk.wayTo {m : Nat} (hm : Msk m) (h : Int) {j : Nat} (hj : j ≤ m) : ∃ k, k < 10 * SetTable.turns m ∧ way m h k = j := by
  obtain ⟨n, hn, e⟩ := hm.run h hj
  obtain ⟨k, hk, e2⟩ := run_nth m (SetTable.bits h) n
  exact ⟨k, by unfold SetTable.turns; omega, (congrArg SetTable.Probe.j e2).trans e⟩
theorem way_in (m : Nat) (h : Int) (k : Nat) : way m h k ≤ m := by
  have hi : SetTable.bits h % (m + 1) ≤ m := Nat.le_of_lt_succ (Nat.mod_lt _ (Nat.succ_pos _))
  have z := nth_in (m := m) k (runAt m (SetTable.bits h % (m + 1)) (SetTable.bits h)) (by
    have := runEnd_bd hi
    generalize SetTable.bits h % (m + 1) = b at *
    show b + (SetTable.runEnd m b - b) ≤ m
    omega)
  exact Nat.le_trans (Nat.le_add_right _ _) z

/-! a table that finds each of its hashes again -/
structure TB (t : SetTable) (hs : List Int) : Prop where
  up : Ris t.place.toList
  clean : t.dummies = #[]
  many : t.place.size = hs.length
  msk : Msk t.mask
  at_ : ∀ x ∈ t.place.toList, x ≤ t.mask
  again : ∀ (i : Nat) (h : Int) (j : Nat), hs[i]? = some h → t.place.toList[i]? = some j → ∃ k, way t.mask h k = j ∧ ∀ k', k' < k → way t.mask h k' ∈ t.place.toList
section
variable {t : SetTable} {hs : List Int}
theorem TB.len (T : TB t hs) : t.place.toList.length = hs.length := by rw [Array.length_toList, T.many]
theorem TB.gap (T : TB t hs) (room : hs.length ≤ t.mask) (h : Int) : ∃ K, K < 10 * SetTable.turns t.mask ∧ way t.mask h K ∉ t.place.toList ∧ ∀ k, k < K → way t.mask h k ∈ t.place.toList := by
  obtain ⟨j, hj, hn⟩ := st_missing t.place.toList (t.mask + 1) (by rw [T.len]; omega)
  obtain ⟨k, hk, rfl⟩ := T.msk.wayTo h (Nat.le_of_lt_succ hj)
  obtain ⟨K, h1, h2, h3⟩ := st_least (p := fun k => way t.mask h k ∉ t.place.toList) k hn
  exact ⟨K, by omega, h2, fun c hc => Classical.byContradiction (h3 c hc)⟩
theorem TB.ahead (T : TB t hs) {h : Int} {K i j : Nat} (hK : way t.mask h K ∉ t.place.toList) (hi : hs[i]? = some h) (hj : t.place.toList[i]? = some j) : ∃ k, k < K ∧ way t.mask h k = j := by
  obtain ⟨k, e, hb⟩ := T.again i h j hi hj
  refine ⟨k, Nat.lt_of_not_le fun z => ?_, e⟩
  rcases Nat.lt_or_ge K k with c | c
  · exact hK (hb K c)
  · obtain rfl : k = K := by omega
    rw [e] at hK
    exact hK (List.mem_of_getElem? hj)
/-- one more, at the first gap of its way -/
theorem TB.more (T : TB t hs) {h : Int} {K p : Nat} (hK : way t.mask h K ∉ t.place.toList) (hb : ∀ k, k < K → way t.mask h k ∈ t.place.toList) (ep : SetTable.below t.place (way t.mask h K) = p) :
    p ≤ hs.length ∧ TB (t.put (way t.mask h K)).1 (hs.take p ++ h :: hs.drop p) ∧ (t.put (way t.mask h K)).1.fill = hs.length + 1 := by
  obtain ⟨c1, _, _⟩ := below_cut T.up (way t.mask h K)
  rw [ep] at c1
  have hpl : p ≤ t.place.toList.length := by rw [Array.length_toList]; exact c1
  have hph : p ≤ hs.length := by rw [← T.len]; exact hpl
  have hpp := put_place t (way t.mask h K)
  have hdm := put_dm T.clean (way t.mask h K)
  have hfree : t.place[SetTable.below t.place (way t.mask h K)]? ≠ some (way t.mask h K) := fun e => hK (List.mem_of_getElem? (by rw [Array.getElem?_toList]; exact e))
  rw [ep] at hpp
  have old : ∀ {x}, x ∈ t.place.toList → x ∈ (t.put (way t.mask h K)).1.place.toList := fun hx => by rw [hpp]; exact mem_ins.2 (.inr hx)
  have hsz : (t.put (way t.mask h K)).1.place.size = hs.length + 1 := by
    rw [← Array.length_toList, hpp, len_ins _ hpl, T.len]
  refine ⟨hph, ⟨ris_insert T.up hfree, hdm, by rw [hsz, len_ins _ hph], T.msk, fun x hx => ?_, fun i g j hi hj => ?_⟩, ?_⟩
  · rw [hpp] at hx
    rcases mem_ins.1 hx with rfl | z
    · exact way_in _ _ _
    · exact T.at_ x z
  · have lift : (∃ k, way t.mask g k = j ∧ ∀ k', k' < k → way t.mask g k' ∈ t.place.toList) → ∃ k, way (t.put (way t.mask h K)).1.mask g k = j ∧ ∀ k', k' < k → way (t.put (way t.mask h K)).1.mask g k' ∈ (t.put (way t.mask h K)).1.place.toList :=
      fun ⟨k, e, z⟩ => ⟨k, e, fun k' hk' => old (z k' hk')⟩
    rw [tins_get hs hph] at hi
    rw [hpp, tins_get _ hpl] at hj
    by_cases c : i < p
    · rw [if_pos c] at hi hj
      exact lift (T.again i g j hi hj)
    · rw [if_neg c] at hi hj
      by_cases d : i = p
      · rw [if_pos d] at hi hj
        cases hi
        cases hj
        exact ⟨K, rfl, fun k' hk' => old (hb k' hk')⟩
      · rw [if_neg d] at hi hj
        exact lift (T.again (i - 1) g j hi hj)
  · show (t.put (way t.mask h K)).1.place.size + (t.put (way t.mask h K)).1.dummies.size = hs.length + 1
    rw [hsz, hdm]
    rfl
end
/-! all laid anew -/
theorem Msk.free {m : Nat} (hm : Msk m) (own : Array (Option Nat)) (h : Int) {j : Nat} (hj : j ≤ m) (hf : oAt own j = none) :
    ∃ K, SetTable.layClean.free m own (SetTable.turns m) (SetTable.bits h % (m + 1)) (SetTable.bits h) = some (way m h K) ∧ oAt own (way m h K) = none ∧ ∀ k, k < K → oAt own (way m h k) ≠ none := by
  obtain ⟨n, hn, e⟩ := hm.run h hj
  have hw : way m h (off m (SetTable.bits h % (m + 1)) (SetTable.bits h) n) = j := by
    have z := nth_off m n (SetTable.bits h % (m + 1)) (SetTable.bits h)
    rw [itL_run] at z
    exact (congrArg SetTable.Probe.j z).trans e
  obtain ⟨K, k1, k2, k3⟩ := st_least (p := fun k => oAt own (way m h k) = none) (off m (SetTable.bits h % (m + 1)) (SetTable.bits h) n) (by rw [hw]; exact hf)
  refine ⟨K, free_spec m own (SetTable.turns m) n _ _ K (by unfold SetTable.turns; omega) k1 (fun k hk => ?_) (Option.isNone_iff_eq_none.mpr k2), k2, k3⟩
  exact Bool.eq_false_iff.mpr fun z => k3 k hk (Option.isNone_iff_eq_none.mp z)
theorem Msk.own {m : Nat} (hm : Msk m) {done : List Int} {own : Array (Option Nat)} (W : Own m done own) (room : done.length ≤ m) (h : Int) :
    ∃ j, SetTable.layClean.free m own (SetTable.turns m) (SetTable.bits h % (m + 1)) (SetTable.bits h) = some j ∧ Own m (done ++ [h]) (own.setIfInBounds j (some done.length)) := by
  obtain ⟨ps, hps, hin⟩ := W.ps
  obtain ⟨j0, h0, hn0⟩ := st_missing ps (m + 1) (by omega)
  have hj0 : oAt own j0 = none := Classical.byContradiction fun z => hn0 (hin j0 (Nat.le_of_lt_succ h0) z)
  obtain ⟨K, e1, e2, e3⟩ := hm.free own h (Nat.le_of_lt_succ h0) hj0
  have hjm := way_in m h K
  have hme : oAt (own.setIfInBounds (way m h K) (some done.length)) (way m h K) = some done.length := oAt_set_self _ (by rw [W.sz]; omega)
  have keep : ∀ {i : Nat}, oAt own i ≠ none → oAt (own.setIfInBounds (way m h K) (some done.length)) i ≠ none := fun {i} hi => by
    rcases Nat.decEq i (way m h K) with c | c
    · rwa [oAt_set_ne _ c]
    · rw [c, hme]
      nofun
  refine ⟨_, e1, by rw [Array.size_setIfInBounds, W.sz], fun j k hj e => ?_, fun k hk => ?_, way m h K :: ps, by rw [List.length_cons, List.length_append, hps]; rfl, fun j hj e => ?_⟩
  · rcases Nat.decEq j (way m h K) with c | c
    · rw [oAt_set_ne _ c] at e
      obtain ⟨g, G, a1, a2, a3⟩ := W.at_ j k hj e
      exact ⟨g, G, by rw [List.getElem?_append_left (List.getElem?_eq_some_iff.mp a1).1, a1], a2, fun k' hk' => keep (a3 k' hk')⟩
    · rw [c, hme] at e
      cases e
      exact ⟨h, K, by simp, c.symm, fun k' hk' => keep (e3 k' hk')⟩
  · rw [List.length_append, List.length_singleton] at hk
    rcases Nat.lt_or_ge k done.length with c | c
    · obtain ⟨j, hj, e⟩ := W.all k c
      exact ⟨j, hj, by rw [oAt_set_ne _ (fun z => by rw [z, e2] at e; cases e), e]⟩
    · obtain rfl : k = done.length := by omega
      exact ⟨_, hjm, hme⟩
  · rcases Nat.decEq j (way m h K) with c | c
    · rw [oAt_set_ne _ c] at e
      exact List.mem_cons_of_mem _ (hin j hj e)
    · exact c ▸ List.mem_cons_self
theorem Msk.fold {m : Nat} (hm : Msk m) : ∀ (rest done : List Int) (own : Array (Option Nat)), Own m done own → done.length + rest.length ≤ m →
    ∃ own', rest.foldl (stepF m) (some (own, done.length)) = some (own', (done ++ rest).length) ∧ Own m (done ++ rest) own'
  | [], done, own, W, _ => ⟨own, by rw [List.append_nil]; rfl, by rwa [List.append_nil]⟩
  | h :: rest, done, own, W, room => by
    rw [List.length_cons] at room
    obtain ⟨j, e, W'⟩ := hm.own W (by omega) h
    obtain ⟨own', f, W2⟩ := Msk.fold hm rest (done ++ [h]) _ W' (by rw [List.length_append, List.length_singleton]; omega)
    rw [List.append_assoc] at f W2
    rw [List.length_append] at f
    exact ⟨own', by rw [List.foldl_cons, stepF_some e]; exact f, W2⟩
theorem Msk.anew {M : Nat} (hM : Msk M) (t : SetTable) {hs : Array Int} {wanted : Nat} (hw : SetTable.sizeAbove wanted = M + 1) (room : hs.size ≤ M) :
    ∃ t' order, t.relaid hs wanted = some (t', order) ∧ order.toList.Perm (List.range hs.size) ∧ TB t' (order.toList.map fun i => hs.getD i 0) ∧ t'.mask = M ∧ t'.led = t.led ∧ t'.plain = t.plain := by
  obtain ⟨own, f, W⟩ := hM.fold hs.toList [] _ (Own.init M) (by rw [Array.length_toList]; show 0 + hs.size ≤ M; omega)
  have f2 : hs.toList.foldl (stepF M) (some (Array.replicate (M + 1) none, 0)) = some (own, ([] ++ hs.toList).length) := f
  have e : SetTable.layClean M hs = some own := by rw [layClean_eq, f2]; rfl
  rw [List.nil_append] at W
  have hr : t.relaid hs wanted = some (tabOf t M own, ((liveOf M own).map (·.2)).toArray) := by
    rw [relaid_eq, hw, Nat.add_sub_cancel, e]; rfl
  obtain ⟨r1, r2⟩ : Ris ((liveOf M own).map (·.1)) ∧ ∀ x ∈ (liveOf M own).map (·.1), x ∈ List.range (M + 1) := ris_live (fun j => own.getD j none) (List.range (M + 1)) (by unfold Ris; exact List.pairwise_lt_range)
  have in1 : ∀ k, k < hs.size → k ∈ (liveOf M own).map (·.2) := fun k hk => by
    obtain ⟨j, b⟩ := W.all k (by rw [Array.length_toList]; exact hk)
    exact List.mem_map.mpr ⟨(j, k), (mem_live W.sz).2 b, rfl⟩
  have hlen : (liveOf M own).length = hs.size := by
    obtain ⟨ps, p1, p2⟩ := W.ps
    have nd : ((liveOf M own).map (·.1)).Nodup := List.Pairwise.imp (fun h => Nat.ne_of_lt h) (show List.Pairwise _ _ from r1)
    have a := nat_nodup_len _ ps nd fun x hx => by
      obtain ⟨⟨y, k⟩, hq, rfl⟩ := List.mem_map.mp hx
      obtain ⟨b1, b2⟩ := (mem_live W.sz).1 hq
      exact p2 y b1 (by rw [b2]; nofun)
    have b := nat_nodup_len (List.range hs.size) ((liveOf M own).map (·.2)) List.nodup_range fun k hk => in1 k (List.mem_range.mp hk)
    have a : (liveOf M own).length ≤ hs.size := by rw [List.length_map, p1] at a; exact a
    rw [List.length_map, List.length_range] at b
    omega
  refine ⟨tabOf t M own, ((liveOf M own).map (·.2)).toArray, hr, perm_range hs.size _ (by rw [List.length_map]; exact hlen) in1, ⟨r1, rfl, by simp [tabOf], hM, fun x hx => Nat.le_of_lt_succ (List.mem_range.mp (r2 x hx)), fun i h j h1 h2 => ?_⟩, rfl, rfl, rfl⟩
  have h1 : (((liveOf M own).map (·.2)).map fun i => hs.getD i 0)[i]? = some h := h1
  have h2 : ((liveOf M own).map (·.1))[i]? = some j := h2
  rw [List.getElem?_map] at h1 h2
  rw [List.getElem?_map] at h1
  cases hq : (liveOf M own)[i]? with
  | none => rw [hq] at h2; cases h2
  | some q =>
    rw [hq] at h1 h2
    cases h1
    cases h2
    obtain ⟨b1, b2⟩ := (mem_live (j := q.1) (k := q.2) W.sz).1 (List.mem_of_getElem? hq)
    obtain ⟨g, K, a1, a2, a3⟩ := W.at_ q.1 q.2 b1 b2
    have e0 : hs.getD q.2 0 = g := by rw [Array.getD_eq_getD_getElem?, ← Array.getElem?_toList, a1]; rfl
    show ∃ k, way M (hs.getD q.2 0) k = q.1 ∧ ∀ k', k' < k → way M (hs.getD q.2 0) k' ∈ (liveOf M own).map (·.1)
    rw [e0]
    refine ⟨K, a2, fun k' hk' => ?_⟩
    obtain ⟨z, hz⟩ := Option.ne_none_iff_exists'.mp (a3 k' hk')
    exact List.mem_map.mpr ⟨(way M g k', z), (mem_live W.sz).2 ⟨way_in M g k', hz⟩, rfl⟩
end SB

end
section
set_option maxHeartbeats 2000000
/-! sets of tuples of whole numbers, of any size up to a thousand: search, adding -/
namespace SB
open PySem PySem.Spec PyProof.Rows L2
abbrev hsh (P : Program) (w : World) (L : List (Addr × List Int)) : List Int := L.map fun p => thash P w p.2
/-- the set at a holds L (address and numbers of each) -/
structure Core (P : Program) (w : World) (h : Heap) (a : Addr) (L : List (Addr × List Int)) (es : Array (Int × Value)) (ep : Nat) (t : SetTable) : Prop where
  obj : ∃ o, h.get? a = some o ∧ o.ExactSet ∧ o.data = .set es ep t
  row : es.toList = rowsOf P w L
  tab : TB t (hsh P w L)
  one : (L.map (·.2)).Nodup
  pln : t.plain = true
  ld : w.params.followText "set-order" = true ∨ t.led = true
  wide : L.length * 5 < t.mask * 3
  few : L.length ≤ 1000
abbrev At (P : Program) (w : World) (h : Heap) (L : List (Addr × List Int)) : Prop := ∀ p ∈ L, IsT P w h p.2 p.1
def pr (t : SetTable) (h : Int) (c : Nat) : SetTable.Probe := nth t.mask (runAt t.mask (SetTable.bits h % (t.mask + 1)) (SetTable.bits h)) c
theorem pr_dummy (t : SetTable) (h : Int) (c : Nat) : (pr t h c).dummy = none := by
  have : ∀ (n : Nat) (p : SetTable.Probe), p.dummy = none → (nth t.mask p n).dummy = none := by
    intro n
    induction n with
    | zero => exact fun p e => e
    | succ n ih => exact fun p e => ih _ (by unfold adv; split <;> exact e)
  exact this c _ rfl
theorem pr_add (t : SetTable) (h : Int) (c q : Nat) : nth t.mask (pr t h c) q = pr t h (c + q) := (nth_add t.mask c _ q).symm
theorem pr_j (t : SetTable) (h : Int) (c q : Nat) : (nth t.mask (pr t h c) q).j = way t.mask h (c + q) := congrArg SetTable.Probe.j (pr_add t h c q)
section
variable {P : Program} {w : World} {A : Around} {E : Value → Shared → Prop} {s : Shared} {h : Heap} {a : Addr} {L : List (Addr × List Int)} {es : Array (Int × Value)} {ep : Nat} {t : SetTable}
theorem rowsOf_len (e : es.toList = rowsOf P w L) : es.size = L.length := by
  rw [← Array.length_toList, e]
  unfold rowsOf
  rw [List.length_map]
theorem Core.size (Z : Core P w h a L es ep t) : es.size = L.length := rowsOf_len Z.row
theorem Core.plc (Z : Core P w h a L es ep t) : t.place.toList.length = L.length := by rw [Z.tab.len, List.length_map]
theorem fits_of (e : t.place.size = es.size) (d : t.dummies = #[]) (l : es.size ≤ t.mask) : t.fits es.size = true := by
  unfold SetTable.fits SetTable.fill
  rw [d, e]
  simpa using l
theorem Core.fits (Z : Core P w h a L es ep t) : t.fits es.size = true :=
  fits_of (by rw [Z.tab.many, List.length_map, Z.size]) Z.tab.clean (by have := Z.wide; rw [Z.size]; omega)
theorem Core.nth (Z : Core P w h a L es ep t) {i : Nat} {p : Addr × List Int} (e : L[i]? = some p) : es[i]? = some (thash P w p.2, Value.ref p.1) := by
  have z : (rowsOf P w L)[i]? = some (thash P w p.2, Value.ref p.1) := by
    unfold rowsOf
    rw [List.getElem?_map, e]
    rfl
  rwa [← Z.row, Array.getElem?_toList] at z
theorem Core.sound (Z : Core P w h a L es ep t) : ¬ t.gaveWay = true := by
  unfold SetTable.gaveWay
  rw [Z.tab.msk.odd]
  decide
/-- the search, from the c-th step of its way -/
theorem seek (Z : Core P w s.heap a L es ep t) (hT : At P w s.heap L) {x : Addr} {k : List Int} (hx : IsT P w s.heap k x) (hu : A.units < cLine) {K : Nat} (hKf : K < 10 * SetTable.turns t.mask)
    (hK : way t.mask (thash P w k) K ∉ t.place.toList) (hKb : ∀ c, c < K → way t.mask (thash P w k) c ∈ t.place.toList) (add : Bool) {Q : SetFound → Shared → Prop}
    (hin : k ∈ L.map (·.2) → ∀ r : Option Nat, (add = false → r.isSome = true) → Q (.there r) s) (hout : k ∉ L.map (·.2) → Q (.free (way t.mask (thash P w k) K) false) s) :
    ∀ (f c : Nat) (stand : Option SetTable.Probe), stand.getD (t.probeStart (thash P w k)) = pr t (thash P w k) c → c ≤ K → K - c < f →
      (∀ (i : Nat) p, L[i]? = some p → p.2 = k → ∃ c', c ≤ c' ∧ c' < K ∧ t.place.toList[i]? = some (way t.mask (thash P w k) c')) → wpAny (model P w) A (setSearchFrom a (.ref x) (thash P w k) add f stand) Q E s
  | 0, c, stand, _, _, hf, _ => absurd hf (Nat.not_lt_zero _)
  | f + 1, c, stand, hst, hc, hf, hre => by
    obtain ⟨o, hob, hox, hdt⟩ := Z.obj
    generalize hg : thash P w k = g at *
    have hash : ∀ (i : Nat) p, L[i]? = some p → (es[i]?.map (·.1)).getD 0 = thash P w p.2 := fun i p hp => by rw [Z.nth hp]; rfl
    have spec := go_spec t Z.tab.up Z.tab.clean (fun i => (es[i]?.map (·.1)).getD 0) g (10 * SetTable.turns t.mask) (K - c) (pr t g c) (pr_dummy t g c) (by omega)
      (fun q hq => by rw [pr_j]; exact hKb (c + q) (by omega)) (by rw [pr_j, show c + (K - c) = K by omega]; exact hK)
    rw [setSearchFrom_succ]
    refine wpAny_bind (wpAny_setState_of hob hdt Z.fits ?_)
    dsimp only
    refine wp_if_neg Z.sound ?_
    try (refine wpAny_bind ?_; refine wpAny_pure ?_)
    have hprobe : t.probe (fun i => (es[i]?.map (·.1)).getD 0) g (stand.getD (t.probeStart g)) = SetTable.probe.go t (fun i => (es[i]?.map (·.1)).getD 0) g (10 * SetTable.turns t.mask) (pr t g c) := by rw [hst]; rfl
    rw [hprobe]
    rcases spec with ⟨q, i, hq, hi, hh, hno, e⟩ | ⟨hno, e⟩
    · rw [e, pr_j, pr_add]
      rw [pr_j] at hi
      dsimp only
      have hil : i < L.length := by
        have := (List.getElem?_eq_some_iff.mp hi).1
        rwa [Z.plc] at this
      obtain ⟨p, hp⟩ : ∃ p, L[i]? = some p := ⟨L[i], List.getElem?_eq_getElem hil⟩
      have hmem : p ∈ L := List.mem_of_getElem? hp
      have hlive : t.slot (way t.mask g (c + q)) = .live i := slot_live Z.tab.up hi
      have rest : wpAny (model P w) A (searchRest a (.ref x) g add f es t (way t.mask g (c + q)) i (pr t g (c + (q + 1)))) Q E s := by
        unfold searchRest
        rw [Z.nth hp]
        dsimp only
        refine wpAny_bind (wpAny_holding (wpAny_eqBool_tuple hu (hT p hmem) hx ?_))
        refine wpAny_bind (wpAny_setState_of hob hdt Z.fits ?_)
        dsimp only
        by_cases hkk : p.2 = k
        · have hin' := hin (List.mem_map.mpr ⟨p, hmem, hkk⟩)
          cases add with
          | true =>
            refine wp_if_pos (by simp [hkk]) ?_
            exact wpAny_pure (hin' none nofun)
          | false =>
            refine wp_if_neg (by simp) ?_
            try (refine wpAny_bind ?_; refine wpAny_pure ?_)
            rw [sameMem]
            simp only [if_true, hlive, Z.nth hp]
            refine wpAny_bind (wpAny_isSame_ref_self ?_)
            refine wpAny_bind ?_
            refine wpAny_pure ?_
            simp only [if_true]
            refine wp_if_pos (by simp [hkk]) ?_
            exact wpAny_pure (hin' (some i) fun _ => rfl)
        · refine wp_if_neg (by simp [hkk]) ?_
          try (refine wpAny_bind ?_; refine wpAny_pure ?_)
          rw [sameMem]
          simp only [if_true, hlive, Z.nth hp]
          refine wpAny_bind (wpAny_isSame_ref_self ?_)
          refine wpAny_bind ?_
          refine wpAny_pure ?_
          simp only [if_true]
          refine wp_if_neg (by simp [hkk]) ?_
          subst hg
          refine seek Z hT hx hu hKf hK hKb add hin hout f (c + (q + 1)) _ rfl (by omega) (by omega) fun i0 p0 h0 hk0 => ?_
          obtain ⟨c', a1, a2, a3⟩ := hre i0 p0 h0 hk0
          refine ⟨c', Nat.lt_of_not_le fun z => ?_, a2, a3⟩
          have z : c' ≤ c + q := z
          rcases Nat.lt_or_ge c' (c + q) with y | y
          · refine hno (c' - c) i0 (by omega) (by rw [pr_j, show c + (c' - c) = c' by omega]; exact a3) ?_
            rw [hash i0 p0 h0, hk0]
          · obtain rfl : c' = c + q := by omega
            have z2 := slot_live Z.tab.up a3
            rw [hlive] at z2
            cases z2
            rw [hp] at h0
            cases h0
            exact hkk hk0
      rcases Bool.eq_false_or_eq_true t.led with hl | hl
      · refine wp_if_neg (by simp [hl]) ?_
        try (refine wpAny_bind ?_; refine wpAny_pure ?_)
        exact rest
      · refine wp_if_pos (by simp [hl]) ?_
        refine wpAny_bind (seen_tup hx (fun y hy => ?_) ?_)
        · obtain ⟨r, hr, rfl⟩ := List.mem_map.mp hy
          have hr2 : r ∈ es.toList := by
            have : r ∈ es ∧ r.1 = g := by simpa using hr
            simpa using this.1
          rw [Z.row] at hr2
          obtain ⟨p2, hp2, rfl⟩ := List.mem_map.mp hr2
          exact ⟨p2.2, p2.1, rfl, hT p2 hp2⟩
        · refine wp_if_neg (by decide) ?_
          try (refine wpAny_bind ?_; refine wpAny_pure ?_)
          exact rest
    · rw [e, pr_j, show c + (K - c) = K by omega]
      dsimp only
      refine wpAny_pure (hout fun hm => ?_)
      obtain ⟨p0, h0, hk0⟩ := List.mem_map.mp hm
      obtain ⟨i0, hi0, e0⟩ := List.getElem_of_mem h0
      have h00 : L[i0]? = some p0 := by rw [List.getElem?_eq_getElem hi0, e0]
      obtain ⟨c', a1, a2, a3⟩ := hre i0 p0 h00 hk0
      refine hno (c' - c) i0 (by omega) (by rw [pr_j, show c + (c' - c) = c' by omega]; exact a3) ?_
      rw [← hg, ← hk0]
      exact hash i0 p0 h00
theorem seek0 (Z : Core P w s.heap a L es ep t) (hT : At P w s.heap L) {x : Addr} {k : List Int} (hx : IsT P w s.heap k x) (hu : A.units < cLine) (add : Bool) {Q : SetFound → Shared → Prop}
    (hin : k ∈ L.map (·.2) → ∀ r : Option Nat, (add = false → r.isSome = true) → Q (.there r) s)
    (hout : ∀ K, k ∉ L.map (·.2) → way t.mask (thash P w k) K ∉ t.place.toList → (∀ c, c < K → way t.mask (thash P w k) c ∈ t.place.toList) → Q (.free (way t.mask (thash P w k) K) false) s) :
    wpAny (model P w) A (setSearch a (.ref x) (thash P w k) add) Q E s := by
  have hw := Z.wide
  obtain ⟨K, hKf, hK, hKb⟩ := Z.tab.gap (by rw [List.length_map]; omega) (thash P w k)
  have := Z.tab.msk.le
  have hKs : K < 100000 := by unfold SetTable.turns at hKf; omega
  unfold setSearch
  refine seek Z hT hx hu hKf hK hKb add hin (fun hn => hout K hn hK hKb) 100000 0 none rfl (Nat.zero_le _) (by omega) fun i p hp hk => ?_
  have hil := (List.getElem?_eq_some_iff.mp hp).1
  have hj := List.getElem?_eq_getElem (l := t.place.toList) (i := i) (by rw [Z.plc]; exact hil)
  obtain ⟨c, hc, e⟩ := Z.tab.ahead hK (i := i) (by rw [List.getElem?_map, hp, ← hk]; rfl) hj
  exact ⟨c, Nat.zero_le _, hc, by rw [hj, e]⟩
end
end SB

end
section
set_option maxHeartbeats 3200000
namespace SB
open PySem PySem.Spec PyProof.Rows L2
theorem above_go (n : Nat) (hn : n < 4096) : ∀ f i, i ≤ 12 → 12 - i < f → ∃ k, SetTable.sizeAbove.go n f (2 ^ i) = 2 ^ k ∧ i ≤ k ∧ k ≤ 12 ∧ n < 2 ^ k
  | 0, i, _, h => absurd h (Nat.not_lt_zero _)
  | f + 1, i, hi, hf => by
    unfold SetTable.sizeAbove.go
    by_cases c : 2 ^ i ≤ n
    · have : i ≠ 12 := fun z => by rw [z] at c; omega
      rw [if_pos c, ← Nat.pow_succ]
      obtain ⟨k, e, a, b, d⟩ := above_go n hn f (i + 1) (by omega) (by omega)
      exact ⟨k, e, by omega, b, d⟩
    · rw [if_neg c]
      exact ⟨i, rfl, Nat.le_refl _, hi, by omega⟩
/-- the mask of a table that grows -/
theorem grows {n : Nat} (h : n ≤ 1000) : ∃ M, SetTable.sizeAbove (SetTable.grown n) = M + 1 ∧ Msk M ∧ n * 4 ≤ M := by
  unfold SetTable.grown
  rw [if_neg (by omega)]
  obtain ⟨k, e, a, b, d⟩ := above_go (n * 4) (by omega) 64 3 (by omega) (by omega)
  have hp := Nat.two_pow_pos k
  refine ⟨2 ^ k - 1, ?_, ⟨k, by omega, by omega, b⟩, by omega⟩
  rw [Nat.sub_add_cancel hp, ← e]
  rfl
section
variable {P : Program} {w : World} {A : Around} {E : Value → Shared → Prop} {s : Shared} {h : Heap} {a : Addr} {L : List (Addr × List Int)} {es : Array (Int × Value)} {ep : Nat} {t : SetTable}
theorem At.same {h' : Heap} (hT : At P w h L) {o : Obj} (hob : h.get? a = some o) (hdt : o.data = .set es ep t) (sb : Heap.SameBut a h h') : At P w h' L := fun p hp => isT_same (hT p hp) hob hdt sb
theorem At.keep {h' : Heap} (hT : At P w h L) (hk : ∀ c o, h.get? c = some o → h'.get? c = some o) : At P w h' L := fun p hp => isT_keep (hT p hp) hk
theorem Core.keep {h' : Heap} (Z : Core P w h a L es ep t) (hk : ∀ o, h.get? a = some o → h'.get? a = some o) : Core P w h' a L es ep t := by
  obtain ⟨o, hob, r⟩ := Z.obj
  exact { Z with obj := ⟨o, hk o hob, r⟩ }
/-- the table laid anew -/
theorem relay {o : Obj} (hob : s.heap.get? a = some o) (hox : o.ExactSet) (hdt : o.data = .set es ep t) (row : es.toList = rowsOf P w L) (many : t.place.size = es.size) (clean : t.dummies = #[]) (low : es.size ≤ t.mask)
    (one : (L.map (·.2)).Nodup) (pln : t.plain = true) (ld : w.params.followText "set-order" = true ∨ t.led = true) (few : L.length ≤ 1000) {wanted M : Nat} (hw : SetTable.sizeAbove wanted = M + 1) (hM : Msk M) (wide : L.length * 4 ≤ M) (pos : 0 < L.length)
    {Q : Unit → Shared → Prop} (hQ : ∀ h' L' es' ep' t', Heap.SameBut a s.heap h' → Core P w h' a L' es' ep' t' → L'.Perm L → Q () { s with heap := h' }) : wpAny (model P w) A (setRelay a wanted) Q E s := by
  have hsl := rowsOf_len row
  have hml := hM.le
  obtain ⟨t', order, e, hp, T, em, el, epl⟩ := hM.anew t (hs := es.map (·.1)) hw (by rw [Array.size_map, hsl]; omega)
  rw [Array.size_map, hsl] at hp
  obtain ⟨L2, r1, r2, r3⟩ := order_rows L es order row hp
  rw [← r3] at T
  have hs2 : (order.filterMap (es[·]?)).size = es.size := by rw [rowsOf_len r1, r2.length_eq, hsl]
  have sb : Heap.SameBut a s.heap (s.heap.update a (Obj.putSet (order.filterMap (es[·]?)) t')) := Heap.SameBut.update ..
  rw [setRelay_eq]
  refine wpAny_bind (wpAny_setState_of hob hdt (fits_of many clean low) ?_)
  dsimp only
  refine wp_if_neg (by rw [sizeLine_eq, hw]; omega) ?_
  try (refine wpAny_bind ?_; refine wpAny_pure ?_)
  rw [e]
  dsimp only
  refine wpAny_bind ?_
  refine wp_if_neg (by rw [hs2]; simp) ?_
  try (refine wpAny_bind ?_; refine wpAny_pure ?_)
  refine wpAny_pure ?_
  dsimp only
  refine wpAny_storeSet_of hob hdt (hQ _ L2 (order.filterMap (es[·]?)) (ep + 1) t' sb ⟨⟨_, store_at hob hdt, ⟨hox.1, hox.2.1, hox.2.2⟩, rfl⟩, r1, T, (r2.map (·.2)).nodup_iff.mpr one, by rw [epl, pln], by rw [el]; exact ld, ?_, by rw [r2.length_eq]; exact few⟩ r2) (by rw [hs2, hsl, sizeLine_eq]; omega)
  rw [r2.length_eq, em]
  omega
/-- one more -/
theorem adds (Z : Core P w s.heap a L es ep t) (hT : At P w s.heap L) {x : Addr} {k : List Int} (hx : IsT P w s.heap k x) (hu : A.units < cLine) (room : L.length < 1000) {Q : Bool → Shared → Prop}
    (hQ : ∀ b h' L' es' ep' t', Heap.SameBut a s.heap h' → Core P w h' a L' es' ep' t' → (k ∈ L.map (·.2) → L' = L) → (k ∉ L.map (·.2) → L'.Perm ((x, k) :: L)) → Q b { s with heap := h' }) :
    wpAny (model P w) A (setAddHashed a (.ref x) (thash P w k)) Q E s := by
  obtain ⟨o, hob, hox, hdt⟩ := Z.obj
  have hsl := Z.size
  have hwd := Z.wide
  unfold setAddHashed
  refine wpAny_holding ?_
  rw [show 100000 = 99999 + 1 from rfl, setAddHashedIn_succ]
  refine wpAny_bind (wpAny_setState_of hob hdt Z.fits ?_)
  dsimp only
  refine wp_if_neg (by simp [byScan, Value.scannable]) ?_
  try (refine wpAny_bind ?_; refine wpAny_pure ?_)
  refine wpAny_bind (seek0 Z hT hx hu true (fun hm r _ => ?_) fun K hm hK hb => ?_)
  · dsimp only
    exact wpAny_pure (hQ false s.heap L es ep t (Heap.SameBut.refl a s.heap) Z (fun _ => rfl) fun z => absurd hm z)
  · dsimp only
    refine wpAny_bind (wpAny_setState_of hob hdt Z.fits ?_)
    dsimp only
    obtain ⟨p, ep0⟩ : ∃ p, SetTable.below t.place (way t.mask (thash P w k) K) = p := ⟨_, rfl⟩
    obtain ⟨q1, q2, q3⟩ := Z.tab.more hK hb ep0
    have hput : t.put (way t.mask (thash P w k) K) = ((t.put (way t.mask (thash P w k) K)).1, p) := by rw [← ep0]; rfl
    have m1 : (t.put (way t.mask (thash P w k) K)).1.mask = t.mask := rfl
    have m2 : (t.put (way t.mask (thash P w k) K)).1.led = t.led := rfl
    have m3 : (t.put (way t.mask (thash P w k) K)).1.plain = true := Z.pln
    rw [hput]
    generalize (t.put (way t.mask (thash P w k) K)).1 = t1 at q2 q3 m1 m2 m3
    dsimp only
    first
      | refine wp_if_pos m3 (wpAny_bind (hashBy_tup hx ?_))
      | (refine wpAny_bind ?_; refine wp_if_pos m3 ?_; refine hashBy_tup hx ?_)
    simp only [if_true]
    have pm := put_perm L p (x, k)
    have hlen : (L.take p ++ (x, k) :: L.drop p).length = L.length + 1 := pm.length_eq
    have hrow : (SetTable.insertAt es p (thash P w k, Value.ref x)).toList = rowsOf P w (L.take p ++ (x, k) :: L.drop p) := by
      rw [SetTable.toList_insertAt, rows_put, Z.row]
    have htab : TB t1 (hsh P w (L.take p ++ (x, k) :: L.drop p)) := by
      unfold hsh
      rw [List.map_append, List.map_cons, List.map_take, List.map_drop]
      exact q2
    have hone : ((L.take p ++ (x, k) :: L.drop p).map (·.2)).Nodup := (pm.map (·.2)).nodup_iff.mpr (List.nodup_cons.mpr ⟨hm, Z.one⟩)
    rw [List.length_map] at q3
    generalize SetTable.insertAt es p (thash P w k, Value.ref x) = es1 at hrow ⊢
    generalize L.take p ++ (x, k) :: L.drop p = L1 at pm hlen hrow htab hone
    have hes := (rowsOf_len hrow).trans hlen
    refine wpAny_bind (wpAny_storeSet_of hob hdt ?_ (by rw [hes, sizeLine_eq]; omega))
    have sb : Heap.SameBut a s.heap (s.heap.update a (Obj.putSet es1 t1)) := Heap.SameBut.update ..
    have ho1 := store_at (es' := es1) (t' := t1) hob hdt
    generalize s.heap.update a (Obj.putSet es1 t1) = h1 at sb ho1 ⊢
    have ld1 : w.params.followText "set-order" = true ∨ t1.led = true := by rw [m2]; exact Z.ld
    by_cases hf : t1.tooFull = true
    · first
        | (refine wp_if_pos (by simp [hf]) ?_; refine wpAny_bind ?_)
        | (refine wpAny_bind ?_; refine wp_if_pos (by simp [hf]) ?_)
      obtain ⟨M, g1, g2, g3⟩ := grows (n := L.length + 1) (by omega)
      rw [hsl]
      refine relay (s := { s with heap := h1 }) ho1 ⟨hox.1, hox.2.1, hox.2.2⟩ rfl hrow (by rw [htab.many, List.length_map, hlen, hes]) htab.clean (by rw [hes, m1]; omega) hone m3 ld1 (by omega) g1 g2 (by omega) (by omega) fun h2 L2 es2 ep2 t2 sb2 Z2 pm2 => ?_
      exact wpAny_pure (hQ true h2 L2 es2 ep2 t2 (sb.trans sb2) Z2 (fun z => absurd z hm) fun _ => pm2.trans pm)
    · first
        | refine wp_if_neg (by simp [hf]) ?_
        | (refine wpAny_bind ?_; refine wp_if_neg (by simp [hf]) ?_; refine wpAny_pure ?_)
      have hnf : ¬ t1.fill * 5 ≥ t1.mask * 3 := fun z => hf (by unfold SetTable.tooFull; exact decide_eq_true z)
      exact wpAny_pure (hQ true h1 L1 es1 (ep + 1) t1 sb ⟨⟨_, ho1, ⟨hox.1, hox.2.1, hox.2.2⟩, rfl⟩, hrow, htab, hone, m3, ld1, by rw [hlen]; omega, by omega⟩ (fun z => absurd z hm) fun _ => pm)
/-- is it there -/
theorem finds (Z : Core P w s.heap a L es ep t) (hT : At P w s.heap L) {x : Addr} {k : List Int} (hx : IsT P w s.heap k x) (hu : A.units < cLine) {Q : Option Nat → Shared → Prop}
    (hQ : ∀ r : Option Nat, r.isSome = decide (k ∈ L.map (·.2)) → Q r s) : wpAny (model P w) A (setFind a (.ref x) (thash P w k)) Q E s := by
  obtain ⟨o, hob, hox, hdt⟩ := Z.obj
  unfold setFind
  rw [show 100000 = 99999 + 1 from rfl]
  unfold setFindIn
  refine wpAny_bind (wpAny_setState_of hob hdt Z.fits ?_)
  dsimp only
  refine wp_if_neg (by simp [byScan, Value.scannable]) ?_
  try (refine wpAny_bind ?_; refine wpAny_pure ?_)
  refine wpAny_bind (seek0 Z hT hx hu false (fun hm r hr => ?_) fun K hm _ _ => ?_)
  · dsimp only
    exact wpAny_pure (hQ r (by rw [hr rfl, decide_eq_true hm]))
  · dsimp only
    exact wpAny_pure (hQ none (by rw [decide_eq_false hm]; rfl))
end
end SB

end
section
set_option maxHeartbeats 3200000
namespace SB
open PySem PySem.Spec PyProof.Rows L2
section
variable {P : Program} {w : World} {A : Around} {E : Value → Shared → Prop} {s : Shared}
abbrev newO (w : World) : Obj := { cls := .type "set", dict := none, data := .set #[] 0 (.fresh 0 0 (!w.params.followText "set-order")) }
theorem Core.new {h : Heap} {a : Addr} (e : h.get? a = some (newO w)) : Core P w h a [] #[] 0 (.fresh 0 0 (!w.params.followText "set-order")) := by
  refine ⟨⟨_, e, ⟨rfl, rfl, rfl⟩, rfl⟩, rfl, ⟨List.Pairwise.nil, rfl, rfl, ⟨3, rfl, by decide, by decide⟩, nofun, fun i g j z => by simp at z⟩, List.nodup_nil, rfl, ?_, by show 0 * 5 < 7 * 3; decide, by show 0 ≤ 1000; decide⟩
  show _ ∨ (!w.params.followText "set-order") = true
  cases w.params.followText "set-order" <;> simp
/-- the loop that takes all items in -/
theorem takes {I : Addr} {fp wr : List Addr} {G : Array GenState → Array GenState → Prop} {n : Nat} {Pv : Nat → Value → Prop} {St : Nat → Shared → Prop} {R : Result → Shared → Prop}
    (W : WalksS P w A.in1 I fp wr G n Pv St) (S : Addr) (out : S ∉ fp) (ks : List (Addr × List Int)) (hn : n = ks.length) (few : ks.length ≤ 1000) (item : ∀ i v, Pv i v → ∃ p, ks[i]? = some p ∧ v = .ref p.1)
    (g0 : Heap) (hk : At P w g0 ks) (hS0 : g0.get? S = none) (hw0 : ∀ b ∈ wr, g0.get? b = none) (hu : A.in1.units < cLine) :
    ∀ (left i : Nat) (s : Shared), n - i = left → i ≤ n → St i s → (∀ b o, g0.get? b = some o → s.heap.get? b = some o) → (∃ L es ep t, Core P w s.heap S L es ep t ∧ Got ks i L) →
      (∀ s' L es ep t, Moved (S :: wr) G s s' → Core P w s'.heap S L es ep t → Got ks n L → (∀ b o, g0.get? b = some o → s'.heap.get? b = some o) → R (.ok (.ret .none)) s') →
      codeAny (model P w) A (.builtin "set.update.loop" ⟨[.ref S, .ref I], []⟩) R s := by
  have outw : S ∉ wr := fun z => out (W.sub _ z)
  have wider : ∀ b ∈ wr, b ∈ S :: wr := fun b z => List.mem_cons_of_mem _ z
  have stays : ∀ {s s' : Shared}, Moved wr G s s' → (∀ b o, g0.get? b = some o → s.heap.get? b = some o) → ∀ b o, g0.get? b = some o → s'.heap.get? b = some o := fun mv z b o e =>
    mv.heap b o (fun q => by rw [hw0 b q] at e; cases e) (z b o e)
  intro left
  induction left with
  | zero =>
    intro i s e hi hst base ⟨L, es, ep, t, Z, g⟩ hR
    obtain rfl : i = n := by omega
    refine (codeAny_builtin F.entry_set_update_loop (?_ : _))
    rw [Around.under_plainId F.plain_set_update_loop]
    show wpAny _ A.in1 (pyNext (.ref I) >>= _) _ _ _
    refine wpAny_bind (W.done s _ _ hst fun s' mv => wpAny_pure ?_)
    exact hR s' L es ep t (mv.mono wider) (Z.keep fun o z => mv.heap S o outw z) g (stays mv base)
  | succ left ih =>
    intro i s e hi hst base ⟨L, es, ep, t, Z, g⟩ hR
    refine (codeAny_builtin F.entry_set_update_loop (?_ : _))
    rw [Around.under_plainId F.plain_set_update_loop]
    show wpAny _ A.in1 (pyNext (.ref I) >>= _) _ _ _
    refine wpAny_bind (W.item i s _ _ (by omega) hst fun v s' hv hst' mv => ?_)
    obtain ⟨p, hp, rfl⟩ := item i v hv
    have base' := stays mv base
    have Z' := Z.keep fun o z => mv.heap S o outw z
    have T' : At P w s'.heap L := fun q hq => isT_keep (hk q (List.mem_of_mem_take (g.sub q hq))) base'
    have hx : IsT P w s'.heap p.2 p.1 := isT_keep (hk p (List.mem_of_getElem? hp)) base'
    have hil := (List.getElem?_eq_some_iff.mp hp).1
    show wpAny _ A.in1 (holding [Value.ref p.1] (setAdd S (.ref p.1)) >>= _) _ _ _
    refine wpAny_bind (wpAny_holding ?_)
    unfold setAdd
    refine wpAny_holding (wpAny_bind (wpAny_pyHash_tuple hu hx ?_))
    refine adds (s := { s' with toks := s'.toks + (p.2.length + 1) }) Z' T' hx hu (by have := g.len; omega) fun b h' L' es' ep' t' sb Z2 c1 c2 => ?_
    have g' : Got ks (i + 1) L' := by
      by_cases c : p.2 ∈ L.map (·.2)
      · rw [c1 c]; exact g.same hp c
      · exact g.more hp (c2 c)
    have base2 : ∀ b o, g0.get? b = some o → h'.get? b = some o := fun b o q => (sb.2 b (fun z => by rw [z, hS0] at q; cases q)).trans (base' b o q)
    refine wpAny_pure ⟨plainId_quiet F.plain_set_update_loop _, ih (i + 1) _ (by omega) (by omega) (W.frame _ s' _ _ hst' (Nat.le_add_right _ _) fun b hb o q => ?_) base2 ⟨L', es', ep', t', Z2, g'⟩ fun s3 L3 es3 ep3 t3 mv3 Z3 g3 base3 => ?_⟩
    · rw [sb.2 b (fun z => out (z ▸ hb)), q]
    · refine hR s3 L3 es3 ep3 t3 (Moved.trans W.gtrans ((mv.mono wider).then_heap (Nat.le_add_right _ _) fun b o hb q => ?_) mv3) Z3 g3 base3
      rw [sb.2 b (fun z => hb (z ▸ List.mem_cons_self)), q]
/-- set(xs), xs a list of tuples of whole numbers -/
theorem makes {l : Addr} {items : Array Value} (ks : List (Addr × List Int)) {Q : Value → Shared → Prop} (hh : A.handled = none) (hl : s.heap.IsList l items) (hit : items.toList = ks.map fun p => Value.ref p.1)
    (hk : At P w s.heap ks) (few : ks.length ≤ 1000) (hu : A.units + 3 < cLine)
    (fin : ∀ (h' : Heap) (tk : Nat) L es ep t, Core P w h' s.heap.objs.size L es ep t → Got ks ks.length L → (∀ b o, s.heap.get? b = some o → h'.get? b = some o) → Q (.ref s.heap.objs.size) { s with heap := h', toks := tk }) :
    wpAny (model P w) A (call (.type "set") [.ref l]) Q E s := by
  have isz : items.size = ks.length := by rw [← Array.length_toList, hit, List.length_map]
  have free : ∀ b, s.heap.objs.size ≤ b → s.heap.get? b = none := fun b hb => by
    cases q : s.heap.get? b with
    | none => rfl
    | some o => exact absurd (Heap.lt_size q) (Nat.not_lt.mpr hb)
  obtain ⟨c, tl, hmro⟩ := F.called_set.mro
  have z1 := F.called_set.made
  have z2 := F.called_set.sub
  have z3 := F.called_set.notType
  have z4 := F.called_set.canCreate
  have z5 := F.typeCall_set_1 (.ref l)
  refine wpAny_call (codeAny_of_tree ?_)
  show wpAny _ _ (callAny (.type "set") _) _ _ s
  refine wpAny_pure ⟨Code.quiet_builtin _ (by decide +kernel), codeAny_builtin F.entry_type_call ?_⟩
  rw [Around.under_plain (weight_type_call_type "set" [.ref l] []) rfl]
  repeat (any_goals (first | assumption | wp_step))
  refine codeAny_mono (code_set_led1 (.ref l) (E := E) (Q₁ := fun obj s₁ => obj = .ref s.heap.objs.size ∧ s₁ = { s with heap := s.heap.push (newO w) }) ⟨rfl, rfl⟩) fun r s₁ hr => ?_
  match r, hr with
  | .error e, hr => exact hr
  | .ok (.ret obj), ⟨e1, e2⟩ =>
    subst e1 e2
    have hS : (s.heap.push (newO w)).get? s.heap.objs.size = some (newO w) := Heap.get?_push_size _ rfl
    have hT : Shared.TypeIs { s with heap := s.heap.push (newO w) } (.ref s.heap.objs.size) "set" := ⟨_, hS, rfl⟩
    have z6 := F.called_set.init.lookup
    have z7 := F.called_set.init.bind (.ref s.heap.objs.size)
    repeat (any_goals (first | assumption | wp_step))
    refine codeAny_mono (codeAny_call_builtin (R := wants (fun r s₂ => r = .none ∧ ∃ h' tk L es ep t, s₂ = { s with heap := h', toks := tk } ∧ Core P w h' s.heap.objs.size L es ep t ∧ Got ks ks.length L ∧ ∀ b o, s.heap.get? b = some o → h'.get? b = some o) E)
      F.called_set.init.plain F.entry_set_init (check_set_init_1 hT ?_)) fun r₂ s₂ hr₂ => ?_
    · obtain ⟨⟨ocls, odict, odata, oslots⟩, hol, rfl, nl, rfl⟩ := hl
      have hlS := Heap.lt_size hol
      have hol' := Heap.get?_push_of_some (newO w) hol
      have hl1 : (s.heap.push (newO w)).IsList l items := ⟨_, hol', rfl, nl, rfl⟩
      have y1 := F.sub_list_set
      have y2 := F.sub_list_frozenset
      have y3 : (Value.type "list" == Value.type "dict") = false := by decide
      unfold Builtin.«set.__init__» noKeywords Builtin.Frozenset.updateFrom
      generalize hPI : pyIter = PI
      wp_walk
      subst hPI
      refine wpAny_pyIter_list hl1 (wpAny_bind (wpAny_runValue ?_))
      have hsz : (s.heap.push (newO w)).objs.size = s.heap.objs.size + 1 := Heap.size_push ..
      have hne : l ≠ (s.heap.push (newO w)).objs.size := by rw [hsz]; exact Nat.ne_of_lt (Nat.lt_succ_of_lt hlS)
      have val : ∀ (i : Nat) (v : Value), items[i]? = some v → ∃ p, ks[i]? = some p ∧ v = .ref p.1 := fun i v hv => by
        rw [← Array.getElem?_toList, hit, List.getElem?_map] at hv
        obtain ⟨p, hp, rfl⟩ := Option.map_eq_some_iff.mp hv
        exact ⟨p, hp, rfl⟩
      refine takes ((Walks.list (A := A.in1.in1.in1) (by simp [hh]) _ l hne items).toS) s.heap.objs.size (by
          rw [hsz]
          simp only [List.mem_cons, List.not_mem_nil, or_false, not_or]
          exact ⟨Nat.ne_of_lt (Nat.lt_succ_self _), Nat.ne_of_gt hlS⟩) ks isz few val s.heap hk (free _ (Nat.le_refl _)) (fun b hb => free b (by
          rw [List.mem_singleton.mp hb, hsz]
          exact Nat.le_succ _)) (by show A.units + 3 < cLine; exact hu) (items.size - 0) 0 _ rfl (Nat.zero_le _) ⟨⟨_, Heap.get?_push_size _ rfl, rfl, rfl⟩, (hl1.push _)⟩
        (fun b o e => Heap.get?_push_of_some _ (Heap.get?_push_of_some _ e)) ⟨[], #[], 0, _, Core.new (Heap.get?_push_of_some _ hS), Got.zero ks⟩ ?_
      intro s' L es ep t mv Z g base
      obtain ⟨h', g2, d', tk', os'⟩ := s'
      have eg : g2 = s.gens := mv.gens
      have ed : d' = s.drawn := mv.drawn
      have eo : os' = s.os := mv.os
      subst eg ed eo
      rw [isz] at g
      refine wpAny_pure ?_
      show wpAny _ _ (ret Value.none) _ _ _
      exact wpAny_pure ⟨rfl, h', tk', L, es, ep, t, rfl, Z, g, base⟩
    · match r₂, hr₂ with
      | .error e, hr₂ => exact hr₂
      | .ok (.ret r), ⟨e1, h', tk, L, es, ep, t, e2, Z, g, base⟩ =>
        subst e1 e2
        repeat (any_goals (first | assumption | wp_step))
        exact fin _ _ _ _ _ _ Z g base
end
end SB

end
section
set_option maxHeartbeats 3200000
/-! sets of tuples of whole numbers, as things of the heap: set(xs), x in s, sorted(s) -/
namespace SB
open PySem PySem.Spec PyProof.Rows L2
def SetH (P : Program) (w : World) (a : Addr) (L : List (Addr × List Int)) : HO := .ext fun h => ∃ es ep t, Core P w h a L es ep t
section
variable {P : Program} {w : World} {A : Around} {E : Value → Shared → Prop} {s : Shared} {h : Heap} {a : Addr} {L : List (Addr × List Int)} {es : Array (Int × Value)} {ep : Nat} {t : SetTable}
theorem SetH.ok {H : Hp} (Z : Core P w h a L es ep t) : ObjOk P w H h a (SetH P w a L) := by
  obtain ⟨o, hob, r⟩ := Z.obj
  exact ⟨⟨es, ep, t, Z⟩, ⟨o, hob⟩, fun h1 h2 ⟨es', ep', t', Z'⟩ k => ⟨es', ep', t', Z'.keep k⟩⟩
theorem Core.typ (Z : Core P w s.heap a L es ep t) : s.TypeIs (.ref a) "set" := by
  obtain ⟨o, hob, hox, _⟩ := Z.obj
  exact ⟨o, hob, hox.1⟩
/-- (..) in s -/
theorem has (Z : Core P w s.heap a L es ep t) (hT : At P w s.heap L) {x : Addr} {k : List Int} (hx : IsT P w s.heap k x) (hu : A.units + 4 < cLine) {Q : Bool → Shared → Prop}
    (hQ : Q (decide (k ∈ L.map (·.2))) { s with toks := s.toks + (k.length + 1) }) : wpAny (model P w) A (contains (.ref a) (.ref x)) Q E s := by
  have hty := Z.typ
  unfold contains
  try with_reducible refine wpAny_holding (?_ : _)
  refine wpAny_bind (wpAny_specialOf hty PySem.F.slot_set_contains.lookup (?_ : _))
  show wpAny _ _ (if (some (Value.builtin "set.__contains__") == some Value.none) = true then _ else _) Q E s
  rw [if_neg (by rw [beq_builtin_none]; decide)]
  refine wpAny_bind (wpAny_callSpecialUnlessNone?_slot (name := Str.ofString "__contains__") hty PySem.F.slot_set_contains (wpAny_call_entry PySem.F.slot_set_contains hty entry_set_contains (?_ : _) (PySem.F.args_set_contains_2 _ _)))
  unfold Builtin.«frozenset.__contains__» Builtin.Frozenset.oneOther
  simp only [bind_assoc, List.isEmpty_nil]
  unfold Builtin.Frozenset.withSetAsKey Builtin.Frozenset.addrOf setContains
  refine wpAny_bind (wpAny_pure (?_ : _))
  try dsimp only
  refine wpAny_bind (wpAny_pure (?_ : _))
  try dsimp only
  refine wpAny_bind (wpAny_tryCatch (wpAny_holding (wpAny_bind (wpAny_pyHash_tuple (knd := intKind P w) (by
    show A.units + _ < cLine
    omega) hx ?_))))
  refine wpAny_bind (finds (s := { s with toks := s.toks + (k.length + 1) }) Z hT hx (by
    show A.units + _ < cLine
    omega) fun r hr => ?_)
  refine wpAny_pure ?_
  show wpAny _ _ (ret (Value.bool r.isSome)) _ _ _
  rw [hr]
  exact wpAny_pure ⟨_, rfl, wpAny_truthy_bool hQ⟩
theorem is_in (Z : Core P w s.heap a L es ep t) (hT : At P w s.heap L) {x : Addr} {k : List Int} (hx : IsT P w s.heap k x) (hu : A.units + 4 < cLine) {Q : Value → Shared → Prop}
    (hQ : Q (.bool (decide (k ∈ L.map (·.2)))) { s with toks := s.toks + (k.length + 1) }) : wpAny (model P w) A (compareOp .In (.ref x) (.ref a)) Q E s := by
  show wpAny _ _ (do return Value.bool (← contains (.ref a) (.ref x))) _ _ _
  exact wpAny_bind (has Z hT hx hu (wpAny_pure hQ))
theorem not_in (Z : Core P w s.heap a L es ep t) (hT : At P w s.heap L) {x : Addr} {k : List Int} (hx : IsT P w s.heap k x) (hu : A.units + 4 < cLine) {Q : Value → Shared → Prop}
    (hQ : Q (.bool (!decide (k ∈ L.map (·.2)))) { s with toks := s.toks + (k.length + 1) }) : wpAny (model P w) A (compareOp .NotIn (.ref x) (.ref a)) Q E s := by
  show wpAny _ _ (do return Value.bool (!(← contains (.ref a) (.ref x)))) _ _ _
  exact wpAny_bind (has Z hT hx hu (wpAny_pure hQ))
end
/-! the rules over a heap of abstract things -/
section
variable {X : Cx}
abbrev Tups (H : Hp) (L : List (Addr × List Int)) : Prop := ∀ p ∈ L, H p.1 = some (.tup (p.2.map V.int))
theorem at_inv {pins : List (Addr × Obj)} {σ : L2.St} {H : Hp} {s : Shared} (I : L2.Inv X pins σ H s) {L : List (Addr × List Int)} (hk : Tups H L) : At X.prog X.w s.heap L := fun p hp => I.isT (.inl (.inl (hk p hp)))
def rSet (P : Program) (w : World) : List V → Hp → VK → Prop := fun xs H Q => ∃ (l : Addr) (ks : List (Addr × List Int)), xs = [V.ref l] ∧ H l = some (.lst (ks.map fun p => V.ref p.1)) ∧ Tups H ks ∧ ks.length ≤ 1000 ∧
  ∀ (a : Addr) (L : List (Addr × List Int)), H a = none → (L.map (·.2)).Nodup → (∀ p ∈ L, p ∈ ks) → (∀ p ∈ ks, p.2 ∈ L.map (·.2)) → Q (.ref a) (upd H a (SetH P w a L))
theorem cr_set (hc : X.calm = true) (hu : X.A.units + 64 < cLine) : CallR X (.type "set") (rSet X.prog X.w) := by
  intro pins s σ H xs us Q I r h
  obtain ⟨l, ks, rfl, hl, hk, few, q⟩ := h
  rw [Vals.ref1 r]
  obtain ⟨its, rv, pl, hz⟩ := I.list (SqL.of hl)
  refine makes (P := X.prog) (w := X.w) ks (I.ok.hd hc) pl.isList (by simpa using refs_of_vals rv) (at_inv I hk) few (by omega) fun h' tk L es ep t Z g base => ?_
  have hn : H s.heap.objs.size = none := I.hok.fresh (Nat.le_refl _)
  refine ⟨.ref s.heap.objs.size, upd H s.heap.objs.size (SetH X.prog X.w s.heap.objs.size L), I.laid (t' := tk) base (Nat.le_refl _) (SetH.ok Z), rfl, q _ L hn Z.one (fun p hp => List.mem_of_mem_take (g.sub p hp)) fun p hp => ?_⟩
  exact g.all p (by rw [List.take_length]; exact hp)
def rIn (P : Program) (w : World) (neg : Bool) : V → V → Hp → VK → Prop := fun x y H Q => ∃ (b a : Addr) (k : List Int) (L : List (Addr × List Int)), x = .ref b ∧ H b = some (.tup (k.map V.int)) ∧ y = V.ref a ∧ H a = some (SetH P w a L) ∧ Tups H L ∧ Q (.bl (if neg then !decide (k ∈ L.map (·.2)) else decide (k ∈ L.map (·.2)))) H
theorem or_in (hu : X.A.units + 64 < cLine) : OpR X (compareOp .In) (rIn X.prog X.w false) := by
  intro pins s σ H x y v u Q I rx ry h
  obtain ⟨b, a, k, L, rfl, hb, rfl, ha, hk, q⟩ := h
  cases rx
  cases ry
  obtain ⟨⟨es, ep, t, Z⟩, _⟩ := I.hok a _ ha
  exact is_in Z (at_inv I hk) (I.isT (.inl (.inl hb))) (by omega) ⟨.bl _, H, I.tok _, rfl, q⟩
theorem or_notin (hu : X.A.units + 64 < cLine) : OpR X (compareOp .NotIn) (rIn X.prog X.w true) := by
  intro pins s σ H x y v u Q I rx ry h
  obtain ⟨b, a, k, L, rfl, hb, rfl, ha, hk, q⟩ := h
  cases rx
  cases ry
  obtain ⟨⟨es, ep, t, Z⟩, _⟩ := I.hok a _ ha
  exact not_in Z (at_inv I hk) (I.isT (.inl (.inl hb))) (by omega) ⟨.bl _, H, I.tok _, rfl, q⟩
/-- sorted(s), the items pairs (k says which) -/
def rSorted (P : Program) (w : World) : List V → Hp → VK → Prop := fun xs H Q => ∃ (d : Addr) (L : List (Addr × List Int)) (k : V → Int × Int), xs = [V.ref d] ∧ H d = some (SetH P w d L) ∧
  (∀ p ∈ L, H p.1 = some (.tup (p.2.map V.int)) ∧ p.2 = [(k (.ref p.1)).1, (k (.ref p.1)).2]) ∧
  ∀ ys p, SrtO.Srtd (ltP k) ys → ys.Perm (L.map fun p => V.ref p.1) → H p = none → Q (.ref p) (upd H p (.lst ys))
theorem cr_sorted (hc : X.calm = true) : CallR X (.builtin "sorted") (rSorted X.prog X.w) := by
  intro pins s σ H xs us Q I r h
  obtain ⟨d, L, k, rfl, hd, hx, q⟩ := h
  rw [Vals.ref1 r]
  obtain ⟨⟨es, ep, t, Z⟩, _⟩ := I.hok d _ hd
  obtain ⟨o, hob, hox, hdt⟩ := Z.obj
  refine Calls.call_function_entry PyProof.Rows.kind_sorted PyProof.Rows.plain_sorted PyProof.Rows.entry_sorted (PyProof.Rows.args_sorted1 _) ?_
  unfold Builtin.«sorted»
  refine wpAny_bind (m := checkCount "sorted" 1 1 _) (wpAny_pure ?_)
  refine wpAny_bind (collect_set (A := X.A.in1) (I.ok.hd hc) ⟨o, hob, hox.1, hdt⟩ Z.fits (by have := Z.size; have := Z.few; unfold scanBound; omega) Z.tab.up Z.ld fun s1 vs k1 hz1 g1 o1 pm => ?_)
  have hval2 : es.toList.map (·.2) = L.map fun p => Value.ref p.1 := by
    rw [Z.row]
    unfold rowsOf
    rw [List.map_map]
    rfl
  rw [hval2] at pm
  have hvl : vs.length = L.length := by rw [pm.length_eq, List.length_map]
  have hzl : vs.length ≤ sizeLine := by have := Z.few; rw [hvl, sizeLine_eq]; omega
  have href : ∀ v ∈ vs, ∃ p ∈ L, v = Value.ref p.1 := fun v hv => by
    obtain ⟨p, hp, e⟩ := List.mem_map.mp (pm.mem_iff.mp hv)
    exact ⟨p, hp, e.symm⟩
  have es1 : s1 = { s with heap := s1.heap, gens := s1.gens, drawn := s1.drawn, toks := s1.toks } := by
    cases s1
    cases s
    cases o1
    rfl
  have I1 : L2.Inv X pins σ H { s with heap := s1.heap, gens := s1.gens, drawn := s1.drawn, toks := s1.toks } :=
    I.call (ch := []) (Un.kept k1) (I.hok.kept k1) (by rw [g1]; exact I.bare) (fun _ z => nomatch z)
  rw [es1]
  refine wpAny_bind (wpAny_newList ?_ hzl)
  have hoL : (s1.heap.push (seqObj "list" vs.toArray 0)).get? s1.heap.objs.size = some (seqObj "list" vs.toArray 0) := Heap.get?_push_size _ rfl
  have hp : ∀ v ∈ vs, Srt.IsPair s1.heap v (k (backV v)).1 (k (backV v)).2 := fun v hv => by
    obtain ⟨p, hp, rfl⟩ := href v hv
    obtain ⟨h1, h2⟩ := hx p hp
    obtain ⟨_, its, r2, o, ho, hc, n, hd⟩ := I1.hok _ _ h1
    rw [h2] at r2
    obtain ⟨u1, u2, rfl, ri, rj⟩ := vals2 r2
    obtain ⟨t1, rfl⟩ := ri
    obtain ⟨t2, rfl⟩ := rj
    exact ⟨p.1, o, t1, t2, n, rfl, ho, hc, hd⟩
  show wpAny _ _ _ _ _ { s with heap := s1.heap.push (seqObj "list" vs.toArray 0), gens := s1.gens, drawn := s1.drawn, toks := s1.toks }
  refine wpAny_bind (wpAny_holding (wpAny_call_entry PyProof.Rows.slot_list_sort ⟨_, hoL, rfl⟩ PyProof.Rows.entry_list_sort
    (SrtO.list_sort_ord (s := { s with heap := s1.heap.push (seqObj "list" vs.toArray 0), gens := s1.gens, drawn := s1.drawn, toks := s1.toks }) (SrtO.swo_lex fun u => k (backV u)) hoL hzl (fun h2 => SrtO.pairs_sortableO (by omega) (fun v hv => (hp v hv).keeps fun b o e _ => Heap.get?_push_of_some _ e) fun o e => ?_) fun out h1 h2 => ⟨_, rfl, ?_⟩) (PyProof.Rows.args_list_sort _)))
  · have e' := e.symm.trans hoL
    cases e'
    intro c
    exact absurd (Value.type.inj c) (by decide)
  · have h3 : ∀ u ∈ out, ∃ a, u = Value.ref a := fun u hu => by
      obtain ⟨p, _, e⟩ := href u (h2.perm.mem_iff.mp hu)
      exact ⟨p.1, e⟩
    obtain ⟨e', he'⟩ := PyProof.Rows.sortedHeap_at (vs := vs) (out := out.toArray) hoL
    have hpm : (out.map backV).Perm (L.map fun p => V.ref p.1) := by
      have z := (h2.perm.trans pm).map backV
      rwa [List.map_map] at z
    have hlen : (out.map backV).length ≤ sizeLine := by rw [hpm.length_eq, List.length_map, ← hvl]; exact hzl
    refine wpAny_pure ⟨_, rfl, .ref s1.heap.objs.size, upd H s1.heap.objs.size (.lst (out.map backV)), I1.laid (t' := s1.toks) (fun b u e => ?_) (Nat.le_refl _)
      (show ObjOk X.prog X.w _ _ _ (.lst (out.map backV)) from ⟨hlen, out, e', vals_back h3, he'⟩), rfl, q _ _ (SrtO.srtd_map h1) hpm (I1.hok.fresh (Nat.le_refl _))⟩
    have hb : b < s1.heap.objs.size := Heap.lt_size e
    rw [PyProof.Rows.sortedHeap_old (Nat.ne_of_lt hb) (by rw [size_push']; exact Nat.lt_succ_of_lt hb)]
    exact Heap.get?_push_of_some _ e
end
end SB

end
section
set_option maxHeartbeats 2000000
namespace DL
open PySem PySem.Spec L2
abbrev St := L2.St
theorem ex_t {K : PySem.W.Frag} {H H' : Hp} {a : Addr} {xs : List V} (e : Same H H') (h : SqT K H a xs) : SqT K H' a xs := by
  rcases h with (h | ⟨o, h⟩) | h
  · exact .inl (.inl (e _ _ h))
  · exact .inl (.inr ⟨o, e _ _ h⟩)
  · exact .inr h

/-! data, without the heap -/
inductive D where
  | non | bl (b : Bool) | int (i : Int) | str (x : Str)
  | lst (xs : List D) | tup (xs : List D) | dic (kvs : List ((Int × Int) × D)) | obj (C : Addr) (fs : List (Str × D)) | scr (ns : List Int) | opq (a : Addr)
  | set (P : Program) (w : World) (ks : List (Int × Int)) | dki (kvs : List (Int × D))

mutual
inductive Rep (K : PySem.W.Frag) (H : Hp) : V → D → Prop
  | non : Rep K H .non .non
  | bl (b : Bool) : Rep K H (.bl b) (.bl b)
  | int (i : Int) : Rep K H (.int i) (.int i)
  | str (x : Str) : Rep K H (.str x) (.str x)
  | lst {a : Addr} {xs : List V} {ds : List D} : H a = some (.lst xs) → RepA K H xs ds → Rep K H (.ref a) (.lst ds)
  | tup {a : Addr} {xs : List V} {ds : List D} : H a = some (.tup xs) → RepA K H xs ds → Rep K H (.ref a) (.tup ds)
  | dic {a : Addr} {xs : List (List Key × V)} {ds : List ((Int × Int) × D)} : H a = some (.dT xs) → RepK K H xs ds → Rep K H (.ref a) (.dic ds)
  | obj {a C dx : Addr} {xs : List (Str × V)} {ds : List (Str × D)} : H a = some (.ins C dx xs) → RepF K H xs ds → Rep K H (.ref a) (.obj C ds)
  | scr {a : Addr} {ns : List Int} : SqL K H a (ns.map V.int) → Rep K H (.ref a) (.scr ns)
  | opq (a : Addr) : Rep K H (.ref a) (.opq a)
  | set {a : Addr} {P : Program} {w : World} {L : List (Addr × List Int)} {ks : List (Int × Int)} : H a = some (SB.SetH P w a L) → (L.map (·.2)).Perm (ks.map fun q => [q.1, q.2]) → SB.Tups H L → Rep K H (.ref a) (.set P w ks)
  | dki {a : Addr} {xs : List (Key × V)} {ds : List (Int × D)} : H a = some (.dK xs) → RepG K H xs ds → Rep K H (.ref a) (.dki ds)
inductive RepA (K : PySem.W.Frag) (H : Hp) : List V → List D → Prop
  | nil : RepA K H [] []
  | cons {v : V} {vs : List V} {d : D} {ds : List D} : Rep K H v d → RepA K H vs ds → RepA K H (v :: vs) (d :: ds)
inductive RepK (K : PySem.W.Frag) (H : Hp) : List (List Key × V) → List ((Int × Int) × D) → Prop
  | nil : RepK K H [] []
  | cons {i j : Int} {v : V} {vs : List (List Key × V)} {d : D} {ds : List ((Int × Int) × D)} : Rep K H v d → RepK K H vs ds → RepK K H (([Sum.inl i, Sum.inl j], v) :: vs) (((i, j), d) :: ds)
inductive RepG (K : PySem.W.Frag) (H : Hp) : List (Key × V) → List (Int × D) → Prop
  | nil : RepG K H [] []
  | cons {i : Int} {v : V} {vs : List (Key × V)} {d : D} {ds : List (Int × D)} : Rep K H v d → RepG K H vs ds → RepG K H ((Sum.inl i, v) :: vs) ((i, d) :: ds)
inductive RepF (K : PySem.W.Frag) (H : Hp) : List (Str × V) → List (Str × D) → Prop
  | nil : RepF K H [] []
  | cons {k : Str} {v : V} {vs : List (Str × V)} {d : D} {ds : List (Str × D)} : Rep K H v d → RepF K H vs ds → RepF K H ((k, v) :: vs) ((k, d) :: ds)
end
mutual
theorem Rep.mono {K : PySem.W.Frag} {H H' : Hp} (e : Same H H') : ∀ {v : V} {d : D}, Rep K H v d → Rep K H' v d
  | _, _, .non => .non
  | _, _, .bl b => .bl b
  | _, _, .int i => .int i
  | _, _, .str x => .str x
  | _, _, .lst h r => .lst (e _ _ h) (RepA.mono e r)
  | _, _, .scr h => .scr (e.seq h)
  | _, _, .opq a => .opq a
  | _, _, .set h p t => .set (e _ _ h) p fun q hq => e _ _ (t q hq)
  | _, _, .dki h r => .dki (e _ _ h) (RepG.mono e r)
  | _, _, .tup h r => .tup (e _ _ h) (RepA.mono e r)
  | _, _, .dic h r => .dic (e _ _ h) (RepK.mono e r)
  | _, _, .obj h r => .obj (e _ _ h) (RepF.mono e r)
theorem RepA.mono {K : PySem.W.Frag} {H H' : Hp} (e : Same H H') : ∀ {v : List V} {d : List D}, RepA K H v d → RepA K H' v d
  | _, _, .nil => .nil
  | _, _, .cons h r => .cons (Rep.mono e h) (RepA.mono e r)
theorem RepK.mono {K : PySem.W.Frag} {H H' : Hp} (e : Same H H') : ∀ {v : List (List Key × V)} {d : List ((Int × Int) × D)}, RepK K H v d → RepK K H' v d
  | _, _, .nil => .nil
  | _, _, .cons h r => .cons (Rep.mono e h) (RepK.mono e r)
theorem RepG.mono {K : PySem.W.Frag} {H H' : Hp} (e : Same H H') : ∀ {v : List (Key × V)} {d : List (Int × D)}, RepG K H v d → RepG K H' v d
  | _, _, .nil => .nil
  | _, _, .cons h r => .cons (Rep.mono e h) (RepG.mono e r)
theorem RepF.mono {K : PySem.W.Frag} {H H' : Hp} (e : Same H H') : ∀ {v : List (Str × V)} {d : List (Str × D)}, RepF K H v d → RepF K H' v d
  | _, _, .nil => .nil
  | _, _, .cons h r => .cons (Rep.mono e h) (RepF.mono e r)
end
section
variable {K : PySem.W.Frag} {H H' : Hp}
theorem RepA.len : ∀ {vs : List V} {ds : List D}, RepA K H vs ds → vs.length = ds.length
  | _, _, .nil => rfl
  | _, _, .cons _ r => by rw [List.length_cons, List.length_cons, RepA.len r]
theorem RepA.get : ∀ {vs : List V} {ds : List D} {i : Nat} {v : V}, RepA K H vs ds → vs[i]? = some v → ∃ d, ds[i]? = some d ∧ Rep K H v d
  | _, _, _, _, .nil, e => by simp at e
  | _, _, 0, _, .cons r _, e => by simp at e; subst e; exact ⟨_, rfl, r⟩
  | _, _, i + 1, _, .cons _ r, e => by
    obtain ⟨d, h1, h2⟩ := RepA.get (i := i) r (by simpa using e)
    exact ⟨d, by simpa using h1, h2⟩
theorem RepA.getD : ∀ {vs : List V} {ds : List D} {i : Nat} {d : D}, RepA K H vs ds → ds[i]? = some d → ∃ v, vs[i]? = some v ∧ Rep K H v d
  | _, _, _, _, .nil, e => by simp at e
  | _, _, 0, _, .cons r _, e => by simp at e; subst e; exact ⟨_, rfl, r⟩
  | _, _, i + 1, _, .cons _ r, e => by
    obtain ⟨d, h1, h2⟩ := RepA.getD (i := i) r (by simpa using e)
    exact ⟨d, by simpa using h1, h2⟩
theorem RepA.append : ∀ {vs ws : List V} {ds es : List D}, RepA K H vs ds → RepA K H ws es → RepA K H (vs ++ ws) (ds ++ es)
  | _, _, _, _, .nil, s => s
  | _, _, _, _, .cons r t, s => .cons r (RepA.append t s)
theorem RepA.snoc {vs : List V} {ds : List D} {v : V} {d : D} (r : RepA K H vs ds) (q : Rep K H v d) : RepA K H (vs ++ [v]) (ds ++ [d]) := r.append (.cons q .nil)
theorem RepA.take : ∀ (n : Nat) {vs : List V} {ds : List D}, RepA K H vs ds → RepA K H (vs.take n) (ds.take n)
  | 0, _, _, _ => by simpa using RepA.nil
  | _ + 1, _, _, .nil => .nil
  | n + 1, _, _, .cons r t => .cons r (RepA.take n t)
theorem RepA.drop : ∀ (n : Nat) {vs : List V} {ds : List D}, RepA K H vs ds → RepA K H (vs.drop n) (ds.drop n)
  | 0, _, _, r => by simpa using r
  | _ + 1, _, _, .nil => .nil
  | n + 1, _, _, .cons _ t => RepA.drop n t
theorem RepF.look : ∀ {vs : List (Str × V)} {ds : List (Str × D)} {f : Str} {d : D}, RepF K H vs ds → ds.lookup f = some d → ∃ v, vs.lookup f = some v ∧ Rep K H v d
  | _, _, _, _, .nil, e => by simp at e
  | _, _, f, d, .cons (k := k) r t, e => by
    rw [List.lookup_cons] at e
    rw [List.lookup_cons]
    split at e
    · rename_i h
      cases e
      exact ⟨_, rfl, r⟩
    · exact RepF.look t e
theorem RepF.nolook : ∀ {vs : List (Str × V)} {ds : List (Str × D)} {f : Str}, RepF K H vs ds → ds.lookup f = none → vs.lookup f = none
  | _, _, _, .nil, e => by simp
  | _, _, f, .cons (k := k) r t, e => by
    rw [List.lookup_cons] at e
    rw [List.lookup_cons]
    split at e
    · cases e
    · exact RepF.nolook t e
theorem RepA.ints {ns : List Int} : RepA K H (ns.map V.int) (ns.map D.int) := by
  induction ns with
  | nil => exact .nil
  | cons n r ih => exact .cons (.int n) ih
theorem RepA.ints_of : ∀ {vs : List V} {ns : List Int}, RepA K H vs (ns.map D.int) → vs = ns.map V.int
  | _, [], .nil => rfl
  | _, n :: r, .cons (.int _) t => by
    rw [RepA.ints_of t]
    rfl
end

/-! the heap grows: H0 is what is shared for good, H all that is tracked -/
structure Grow (H0 H H0' H' : Hp) : Prop where
  b : Same H0 H0'
  i : Same H0' H'
  h : Same H H'
  n : ∀ a o, H0' a = some o → H0 a = some o ∨ H a = none ∨ ∃ xs, o = .tup xs
theorem Grow.refl {H0 H : Hp} (i : Same H0 H) : Grow H0 H H0 H := ⟨Same.refl _, i, Same.refl _, fun _ _ e => .inl e⟩
theorem Grow.trans {A B A' B' A2 B2 : Hp} (g : Grow A B A' B') (k : Grow A' B' A2 B2) : Grow A B A2 B2 :=
  ⟨g.b.trans k.b, k.i, g.h.trans k.h, fun a o e => by
    rcases k.n a o e with z | z | z
    · exact g.n a o z
    · exact .inr (.inl (g.h.free z))
    · exact .inr (.inr z)⟩
/-- a new object that stays as it is -/
theorem Grow.new {H0 H : Hp} {p : Addr} {o : HO} (i : Same H0 H) (hp : H p = none) : Grow H0 H (upd H0 p o) (upd H p o) := by
  have h0 : H0 p = none := i.free hp
  refine ⟨fun a u e => ?_, fun a u e => ?_, fun a u e => ?_, fun a u e => ?_⟩
  · rw [upd_ne (ne_of_none e h0)]; exact e
  · by_cases h : a = p
    · subst h; rw [upd_same] at e ⊢; exact e
    · rw [upd_ne h] at e ⊢; exact i a u e
  · rw [upd_ne (ne_of_none e hp)]; exact e
  · by_cases h : a = p
    · subst h; exact .inr (.inl hp)
    · rw [upd_ne h] at e; exact .inl e
/-- a new object of one's own -/
theorem Grow.own {H0 H : Hp} {p : Addr} {o : HO} (i : Same H0 H) (hp : H p = none) : Grow H0 H H0 (upd H p o) := by
  refine ⟨Same.refl _, fun a u e => ?_, fun a u e => ?_, fun a u e => .inl e⟩
  · rw [upd_ne (ne_of_none (i a u e) hp)]; exact i a u e
  · rw [upd_ne (ne_of_none e hp)]; exact e

/-! what a slot holds: shared data, or a list or a dict of one's own that may still change -/
inductive C where
  | any | sh (d : D) | ol (ds : List D) | od (kvs : List ((Int × Int) × D))
def C.own : C → Bool
  | .ol _ => true
  | .od _ => true
  | _ => false
def SlotOk (K : PySem.W.Frag) (H0 H : Hp) (o : Option (Option V)) : C → Prop
  | .any => True
  | .sh d => ∃ v, o = some (some v) ∧ Rep K H0 v d
  | .ol ds => ∃ l vs, o = some (some (.ref l)) ∧ H0 l = none ∧ H l = some (.lst vs) ∧ RepA K H0 vs ds
  | .od kvs => ∃ l vs, o = some (some (.ref l)) ∧ H0 l = none ∧ H l = some (.dT vs) ∧ RepK K H0 vs kvs
structure SR (K : PySem.W.Frag) (He Hb H0 H : Hp) (σ : St) (cs : List C) : Prop where
  gr : Grow He Hb H0 H
  len : σ.length = cs.length
  sl : ∀ (i : Nat) (c : C), cs[i]? = some c → SlotOk K H0 H σ[i]? c
  own : ∀ (i : Nat) (c : C) (l : Addr), cs[i]? = some c → c.own = true → σ[i]? = some (some (.ref l)) → Hb l = none
  dis : ∀ (i j : Nat) (c c' : C) (l : Addr), i ≠ j → cs[i]? = some c → cs[j]? = some c' → c.own = true → c'.own = true → σ[i]? = some (some (.ref l)) → σ[j]? = some (some (.ref l)) → False
section
variable {K : PySem.W.Frag} {He Hb H0 H H0' H' : Hp} {σ : St} {cs : List C}
theorem not_tup {H0 H H0' H' : Hp} (g : Grow H0 H H0' H') {l : Addr} {o : HO} (h0 : H0 l = none) (hl : H l = some o) (nt : ∀ xs, o ≠ .tup xs) : H0' l = none := by
  cases e : H0' l with
  | none => rfl
  | some u =>
    rcases g.n l u e with z | z | ⟨xs, z⟩
    · rw [h0] at z; cases z
    · rw [hl] at z; cases z
    · have q := g.i l u e
      rw [g.h l o hl] at q
      cases q
      exact (nt xs z).elim
theorem SlotOk.grow (g : Grow H0 H H0' H') {o : Option (Option V)} : ∀ {c : C}, SlotOk K H0 H o c → SlotOk K H0' H' o c
  | .any, _ => trivial
  | .sh d, ⟨v, e, r⟩ => ⟨v, e, r.mono g.b⟩
  | .ol ds, ⟨l, vs, e, h0, hl, r⟩ => ⟨l, vs, e, not_tup g h0 hl (fun xs z => by cases z), g.h _ _ hl, r.mono g.b⟩
  | .od ds, ⟨l, vs, e, h0, hl, r⟩ => ⟨l, vs, e, not_tup g h0 hl (fun xs z => by cases z), g.h _ _ hl, r.mono g.b⟩
theorem SR.grow (s : SR K He Hb H0 H σ cs) (g : Grow H0 H H0' H') : SR K He Hb H0' H' σ cs :=
  ⟨s.gr.trans g, s.len, fun i c e => (s.sl i c e).grow g, s.own, s.dis⟩
theorem SR.i (s : SR K He Hb H0 H σ cs) : Same H0 H := s.gr.i
/-- a slot takes shared data -/
theorem SR.set (s : SR K He Hb H0 H σ cs) {i : Nat} {v : V} {d : D} (r : Rep K H0 v d) : SR K He Hb H0 H (σ.set i (some v)) (cs.set i (.sh d)) := by
  refine ⟨s.gr, by rw [List.length_set, List.length_set, s.len], fun j c e => ?_, fun j c l e o q => ?_, fun j k c c' l ne e e' o o' q q' => ?_⟩
  · by_cases h : i = j
    · subst h
      have hi : i < cs.length := by
        have := (List.getElem?_eq_some_iff.mp e).1
        simpa using this
      rw [List.getElem?_set_self hi] at e
      cases e
      exact ⟨v, by rw [List.getElem?_set_self (by rw [s.len]; exact hi)], r⟩
    · rw [List.getElem?_set_ne h] at e ⊢
      exact s.sl j c e
  · have h : i ≠ j := by
      rintro rfl
      have hi : i < cs.length := by
        have := (List.getElem?_eq_some_iff.mp e).1
        simpa using this
      rw [List.getElem?_set_self hi] at e
      cases e
      cases o
    rw [List.getElem?_set_ne h] at e q
    exact s.own j c l e o q
  · have g : ∀ (j : Nat) (c : C), (cs.set i (.sh d))[j]? = some c → c.own = true → i ≠ j := by
      rintro j c e o rfl
      have hi : i < cs.length := by
        have := (List.getElem?_eq_some_iff.mp e).1
        simpa using this
      rw [List.getElem?_set_self hi] at e
      cases e
      cases o
    have n1 := g j c e o
    have n2 := g k c' e' o'
    rw [List.getElem?_set_ne n1] at e q
    rw [List.getElem?_set_ne n2] at e' q'
    exact s.dis j k c c' l ne e e' o o' q q'
/-- a slot takes a new object of one's own (c tells it) -/
theorem SR.setOwn (s : SR K He Hb H0 H σ cs) {i : Nat} {l : Addr} {c0 : C} (hb : Hb l = none) (ok : SlotOk K H0 H (some (some (.ref l))) c0)
    (nw : ∀ (j : Nat) (c : C), j ≠ i → cs[j]? = some c → c.own = true → σ[j]? ≠ some (some (.ref l))) : SR K He Hb H0 H (σ.set i (some (.ref l))) (cs.set i c0) := by
  have at_i : ∀ {c : C}, (cs.set i c0)[i]? = some c → c = c0 ∧ i < cs.length := fun {c} e => by
    have hi : i < cs.length := by
      have := (List.getElem?_eq_some_iff.mp e).1
      simpa using this
    rw [List.getElem?_set_self hi] at e
    exact ⟨(Option.some.inj e).symm, hi⟩
  refine ⟨s.gr, by rw [List.length_set, List.length_set, s.len], fun j c e => ?_, fun j c l' e o q => ?_, fun j k c c' l' ne e e' o o' q q' => ?_⟩
  · by_cases h : i = j
    · subst h
      obtain ⟨rfl, hi⟩ := at_i e
      rw [List.getElem?_set_self (by rw [s.len]; exact hi)]
      exact ok
    · rw [List.getElem?_set_ne h] at e ⊢
      exact s.sl j c e
  · by_cases h : i = j
    · subst h
      obtain ⟨rfl, hi⟩ := at_i e
      rw [List.getElem?_set_self (by rw [s.len]; exact hi)] at q
      cases q
      exact hb
    · rw [List.getElem?_set_ne h] at e q
      exact s.own j c l' e o q
  · by_cases h : i = j
    · subst h
      obtain ⟨rfl, hi⟩ := at_i e
      rw [List.getElem?_set_self (by rw [s.len]; exact hi)] at q
      cases q
      rw [List.getElem?_set_ne ne] at e' q'
      exact nw k c' ne.symm e' o' q'
    · by_cases h2 : i = k
      · subst h2
        obtain ⟨rfl, hi⟩ := at_i e'
        rw [List.getElem?_set_self (by rw [s.len]; exact hi)] at q'
        cases q'
        rw [List.getElem?_set_ne h] at e q
        exact nw j c (Ne.symm h) e o q
      · rw [List.getElem?_set_ne h] at e q
        rw [List.getElem?_set_ne h2] at e' q'
        exact s.dis j k c c' l' ne e e' o o' q q'
/-- what one's own object holds has changed -/
theorem SR.put (s : SR K He Hb H0 H σ cs) {i : Nat} {l : Addr} {c c0 : C} {o : HO} (hc : cs[i]? = some c) (co : c.own = true) (hl : σ[i]? = some (some (.ref l))) (h0 : H0 l = none)
    (ok : SlotOk K H0 (upd H l o) (some (some (.ref l))) c0) : SR K He Hb H0 (upd H l o) σ (cs.set i c0) := by
  have hb := s.own i c l hc co hl
  have at_i : ∀ {c : C}, (cs.set i c0)[i]? = some c → c = c0 ∧ i < cs.length := fun {c} e => by
    have hi : i < cs.length := by
      have := (List.getElem?_eq_some_iff.mp e).1
      simpa using this
    rw [List.getElem?_set_self hi] at e
    exact ⟨(Option.some.inj e).symm, hi⟩
  have gr : Grow He Hb H0 (upd H l o) := ⟨s.gr.b, fun a u e => by rw [upd_ne (ne_of_none e h0)]; exact s.gr.i a u e, fun a u e => by rw [upd_ne (ne_of_none e hb)]; exact s.gr.h a u e, s.gr.n⟩
  have keep : ∀ {l' : Addr}, l' ≠ l → upd H l o l' = H l' := fun n => upd_ne n
  refine ⟨gr, by rw [List.length_set]; exact s.len, fun j c' e => ?_, fun j c' l' e o' q => ?_, fun j k c1 c2 l' ne e e' o1 o2 q q' => ?_⟩
  · by_cases h : i = j
    · subst h
      obtain ⟨rfl, hi⟩ := at_i e
      rw [hl]
      exact ok
    · rw [List.getElem?_set_ne h] at e
      have z := s.sl j c' e
      have nl : c'.own = true → ∀ l', σ[j]? = some (some (.ref l')) → l' ≠ l := fun o' l' q e' => by
        subst e'
        exact s.dis i j c c' l' h hc e co o' hl q
      cases c' with
      | any => trivial
      | sh d => exact z
      | ol ds =>
        obtain ⟨l', vs, e1, e2, e3, e4⟩ := z
        exact ⟨l', vs, e1, e2, by rw [keep (nl rfl l' e1)]; exact e3, e4⟩
      | od ds =>
        obtain ⟨l', vs, e1, e2, e3, e4⟩ := z
        exact ⟨l', vs, e1, e2, by rw [keep (nl rfl l' e1)]; exact e3, e4⟩
  · by_cases h : i = j
    · subst h
      rw [hl] at q
      cases q
      exact hb
    · rw [List.getElem?_set_ne h] at e
      exact s.own j c' l' e o' q
  · by_cases h : i = j
    · subst h
      rw [List.getElem?_set_ne ne] at e'
      exact s.dis i k c c2 l' ne hc e' co o2 q q'
    · rw [List.getElem?_set_ne h] at e
      by_cases h2 : i = k
      · subst h2
        exact s.dis j i c1 c l' ne e hc o1 co q q'
      · rw [List.getElem?_set_ne h2] at e'
        exact s.dis j k c1 c2 l' ne e e' o1 o2 q q'
/-- the object becomes shared: it changes no more -/
theorem SR.freezeL (s : SR K He Hb H0 H σ cs) {i : Nat} {ds : List D} (hc : cs[i]? = some (.ol ds)) : ∃ H0', Same H0 H0' ∧ SR K He Hb H0' H σ (cs.set i (.sh (.lst ds))) := by
  obtain ⟨l, vs, e, h0, hl, r⟩ := s.sl i _ hc
  have hb := s.own i _ l hc rfl e
  have b0 : Same H0 (upd H0 l (.lst vs)) := fun a u q => by rw [upd_ne (ne_of_none q h0)]; exact q
  have hi : i < cs.length := (List.getElem?_eq_some_iff.mp hc).1
  refine ⟨upd H0 l (.lst vs), b0, ⟨⟨s.gr.b.trans b0, fun a u q => ?_, s.gr.h, fun a u q => ?_⟩, by rw [List.length_set]; exact s.len, fun j c q => ?_, fun j c l' q o z => ?_, fun j k c c' l' ne q q' o o' z z' => ?_⟩⟩
  · by_cases h : a = l
    · subst h; rw [upd_same] at q; cases q; exact hl
    · rw [upd_ne h] at q; exact s.gr.i a u q
  · by_cases h : a = l
    · subst h; exact .inr (.inl hb)
    · rw [upd_ne h] at q; exact s.gr.n a u q
  · by_cases h : i = j
    · subst h
      rw [List.getElem?_set_self hi] at q
      cases q
      exact ⟨_, e, .lst upd_same (r.mono b0)⟩
    · rw [List.getElem?_set_ne h] at q
      have z := s.sl j c q
      have nl : c.own = true → ∀ l', σ[j]? = some (some (.ref l')) → l' ≠ l := fun o' l' q' e' => by
        subst e'
        exact s.dis i j _ c l' h hc q rfl o' e q'
      cases c with
      | any => trivial
      | sh d => obtain ⟨v, e1, e2⟩ := z; exact ⟨v, e1, e2.mono b0⟩
      | ol ds =>
        obtain ⟨l', vs, e1, e2, e3, e4⟩ := z
        exact ⟨l', vs, e1, by rw [upd_ne (nl rfl l' e1)]; exact e2, e3, e4.mono b0⟩
      | od ds =>
        obtain ⟨l', vs, e1, e2, e3, e4⟩ := z
        exact ⟨l', vs, e1, by rw [upd_ne (nl rfl l' e1)]; exact e2, e3, e4.mono b0⟩
  · have h : i ≠ j := by
      rintro rfl
      rw [List.getElem?_set_self hi] at q
      cases q
      cases o
    rw [List.getElem?_set_ne h] at q
    exact s.own j c l' q o z
  · have g : ∀ (j : Nat) (c : C), (cs.set i (.sh (.lst ds)))[j]? = some c → c.own = true → i ≠ j := by
      rintro j c e o rfl
      rw [List.getElem?_set_self hi] at e
      cases e
      cases o
    have n1 := g j c q o
    have n2 := g k c' q' o'
    rw [List.getElem?_set_ne n1] at q
    rw [List.getElem?_set_ne n2] at q'
    exact s.dis j k c c' l' ne q q' o o' z z'
theorem SR.freezeD (s : SR K He Hb H0 H σ cs) {i : Nat} {ds : List ((Int × Int) × D)} (hc : cs[i]? = some (.od ds)) : ∃ H0', Same H0 H0' ∧ SR K He Hb H0' H σ (cs.set i (.sh (.dic ds))) := by
  obtain ⟨l, vs, e, h0, hl, r⟩ := s.sl i _ hc
  have hb := s.own i _ l hc rfl e
  have b0 : Same H0 (upd H0 l (.dT vs)) := fun a u q => by rw [upd_ne (ne_of_none q h0)]; exact q
  have hi : i < cs.length := (List.getElem?_eq_some_iff.mp hc).1
  refine ⟨upd H0 l (.dT vs), b0, ⟨⟨s.gr.b.trans b0, fun a u q => ?_, s.gr.h, fun a u q => ?_⟩, by rw [List.length_set]; exact s.len, fun j c q => ?_, fun j c l' q o z => ?_, fun j k c c' l' ne q q' o o' z z' => ?_⟩⟩
  · by_cases h : a = l
    · subst h; rw [upd_same] at q; cases q; exact hl
    · rw [upd_ne h] at q; exact s.gr.i a u q
  · by_cases h : a = l
    · subst h; exact .inr (.inl hb)
    · rw [upd_ne h] at q; exact s.gr.n a u q
  · by_cases h : i = j
    · subst h
      rw [List.getElem?_set_self hi] at q
      cases q
      exact ⟨_, e, .dic upd_same (r.mono b0)⟩
    · rw [List.getElem?_set_ne h] at q
      have z := s.sl j c q
      have nl : c.own = true → ∀ l', σ[j]? = some (some (.ref l')) → l' ≠ l := fun o' l' q' e' => by
        subst e'
        exact s.dis i j _ c l' h hc q rfl o' e q'
      cases c with
      | any => trivial
      | sh d => obtain ⟨v, e1, e2⟩ := z; exact ⟨v, e1, e2.mono b0⟩
      | ol ds =>
        obtain ⟨l', vs, e1, e2, e3, e4⟩ := z
        exact ⟨l', vs, e1, by rw [upd_ne (nl rfl l' e1)]; exact e2, e3, e4.mono b0⟩
      | od ds =>
        obtain ⟨l', vs, e1, e2, e3, e4⟩ := z
        exact ⟨l', vs, e1, by rw [upd_ne (nl rfl l' e1)]; exact e2, e3, e4.mono b0⟩
  · have h : i ≠ j := by
      rintro rfl
      rw [List.getElem?_set_self hi] at q
      cases q
      cases o
    rw [List.getElem?_set_ne h] at q
    exact s.own j c l' q o z
  · have g : ∀ (j : Nat) (c : C), (cs.set i (.sh (.dic ds)))[j]? = some c → c.own = true → i ≠ j := by
      rintro j c e o rfl
      rw [List.getElem?_set_self hi] at e
      cases e
      cases o
    have n1 := g j c q o
    have n2 := g k c' q' o'
    rw [List.getElem?_set_ne n1] at q
    rw [List.getElem?_set_ne n2] at q'
    exact s.dis j k c c' l' ne q q' o o' z z'
end
end DL

end
section
set_option maxHeartbeats 2000000
namespace DL
open PySem PySem.Spec L2

/-! the readings that ask for just what a piece of text does -/
def wE (X : Cx) (e : Expr) : TE := fun σ H Q => ∀ pins s, Inv X pins σ H s → wpAny (model X.prog X.w) X.A (eval e X.env) (EP X pins σ Q) X.xe s
def wT (X : Cx) (e : Expr) : TT := fun σ H Q => ∀ pins s, Inv X pins σ H s → wpAny (model X.prog X.w) X.A (isTrue e X.env (eval e X.env)) (TP X pins σ Q) X.xe s
def wW (X : Cx) (e : Expr) : TT := fun σ H Q => ∀ whole pins s, Inv X pins σ H s → wpAny (model X.prog X.w) X.A (isTrue e X.env whole) (TP X pins σ Q) X.xe s
def wA (X : Cx) (es : List Expr) : TA := fun σ H Q => ∀ pos pins s, Inv X pins σ H s → wpAny (model X.prog X.w) X.A (spliced (backTo pos (starEach es X.env))) (AP X pins σ Q) X.xe s
def wS (X : Cx) (st : Stmt) : TS := fun D σ H => ∀ pins s, Inv X pins σ H s → wpAny (model X.prog X.w) X.A (exec st X.env) (SP X pins D) X.xe s
def wSs (X : Cx) (st : List Stmt) : TS := fun D σ H => ∀ pins s, Inv X pins σ H s → wpAny (model X.prog X.w) X.A (execs st X.env) (SP X pins D) X.xe s
section
variable {X : Cx} {e : Expr} {es : List Expr} {st : Stmt} {sts : List Stmt}
theorem pe_w : PE X e (wE X e) := ⟨fun pins s _ _ _ I h => h pins s I⟩
theorem pt_w : PT X e (wT X e) := ⟨fun pins s _ _ _ I h => h pins s I⟩
theorem pw_w : PW X e (wW X e) := ⟨fun w pins s _ _ _ I h => h w pins s I⟩
theorem pa_w : PA X es (wA X es) := ⟨fun pos pins s _ _ _ I h => h pos pins s I⟩
theorem ps_w : PS X st (wS X st) := ⟨fun pins s _ _ _ I h => h pins s I⟩
theorem pss_w : PSs X sts (wSs X sts) := ⟨fun pins s _ _ _ I h => h pins s I⟩
theorem wE_of {t : TE} (h : PE X e t) {σ : St} {H : Hp} {Q : VK} (q : t σ H Q) : wE X e σ H Q := fun pins s I => h.run pins s σ H Q I q
theorem wT_of {t : TT} (h : PT X e t) {σ : St} {H : Hp} {Q : Bool → Hp → Prop} (q : t σ H Q) : wT X e σ H Q := fun pins s I => h.run pins s σ H Q I q
theorem wW_of {t : TT} (h : PW X e t) {σ : St} {H : Hp} {Q : Bool → Hp → Prop} (q : t σ H Q) : wW X e σ H Q := fun w pins s I => h.run w pins s σ H Q I q
theorem wA_of {t : TA} (h : PA X es t) {σ : St} {H : Hp} {Q : List V → Hp → Prop} (q : t σ H Q) : wA X es σ H Q := fun pos pins s I => h.run pos pins s σ H Q I q
theorem wS_of {t : TS} (h : PS X st t) {σ : St} {H : Hp} {D : Ends} (q : t D σ H) : wS X st D σ H := fun pins s I => h.run pins s σ H D I q
theorem wSs_of {t : TS} (h : PSs X sts t) {σ : St} {H : Hp} {D : Ends} (q : t D σ H) : wSs X sts D σ H := fun pins s I => h.run pins s σ H D I q
end

/-! what a piece evaluates to, as data: EX shared for good, EB for now, EO a new list of one's own, ED a new dict of one's own -/
def EX (X : Cx) (cs : List C) (e : Expr) (d : D) : Prop := ∀ (He Hb H0 H : Hp) (σ : St) (Q : VK), SR X.K He Hb H0 H σ cs → (∀ v H' H0', Grow H0 H H0' H' → Rep X.K H0' v d → Q v H') → wE X e σ H Q
def EB (X : Cx) (cs : List C) (e : Expr) (d : D) : Prop := ∀ (He Hb H0 H : Hp) (σ : St) (Q : VK), SR X.K He Hb H0 H σ cs → (∀ v H' H0', Grow H0 H H0' H' → Rep X.K H' v d → Q v H') → wE X e σ H Q
def EO (X : Cx) (cs : List C) (e : Expr) (ds : List D) : Prop := ∀ (He Hb H0 H : Hp) (σ : St) (Q : VK), SR X.K He Hb H0 H σ cs →
  (∀ l vs H' H0', Grow H0 H H0' H' → H l = none → H0' l = none → H' l = some (.lst vs) → RepA X.K H0' vs ds → Q (.ref l) H') → wE X e σ H Q
def ED (X : Cx) (cs : List C) (e : Expr) (ds : List ((Int × Int) × D)) : Prop := ∀ (He Hb H0 H : Hp) (σ : St) (Q : VK), SR X.K He Hb H0 H σ cs →
  (∀ l vs H' H0', Grow H0 H H0' H' → H l = none → H0' l = none → H' l = some (.dT vs) → RepK X.K H0' vs ds → Q (.ref l) H') → wE X e σ H Q
def EA (X : Cx) (cs : List C) (es : List Expr) (ds : List D) : Prop := ∀ (He Hb H0 H : Hp) (σ : St) (Q : List V → Hp → Prop), SR X.K He Hb H0 H σ cs → (∀ vs H' H0', Grow H0 H H0' H' → RepA X.K H0' vs ds → Q vs H') → wA X es σ H Q
def EAb (X : Cx) (cs : List C) (es : List Expr) (ds : List D) : Prop := ∀ (He Hb H0 H : Hp) (σ : St) (Q : List V → Hp → Prop), SR X.K He Hb H0 H σ cs → (∀ vs H' H0', Grow H0 H H0' H' → RepA X.K H' vs ds → Q vs H') → wA X es σ H Q
def TX (X : Cx) (cs : List C) (e : Expr) (b : Bool) : Prop := ∀ (He Hb H0 H : Hp) (σ : St) (Q : Bool → Hp → Prop), SR X.K He Hb H0 H σ cs → (∀ H' H0', Grow H0 H H0' H' → Q b H') → wT X e σ H Q
def WB (X : Cx) (cs : List C) (e : Expr) (b : Bool) : Prop := ∀ (He Hb H0 H : Hp) (σ : St) (Q : Bool → Hp → Prop), SR X.K He Hb H0 H σ cs → (∀ H' H0', Grow H0 H H0' H' → Q b H') → wW X e σ H Q
/-- not a starred argument -/
def Pl (e : Expr) : Prop := ∀ env es, starEach (e :: es) env = (false, eval e env) :: starEach es env
/-- data that isn't on the heap -/
def D.scal : D → Bool
  | .non => true
  | .bl _ => true
  | .int _ => true
  | .str _ => true
  | _ => false
theorem Rep.scal {K : PySem.W.Frag} {H H' : Hp} {v : V} {d : D} (hd : d.scal = true) (h : Rep K H v d) : Rep K H' v d := by
  cases h with
  | non => exact .non
  | bl b => exact .bl b
  | int b => exact .int b
  | str b => exact .str b
  | lst _ _ => cases hd
  | tup _ _ => cases hd
  | dic _ _ => cases hd
  | obj _ _ => cases hd
  | scr _ => cases hd
  | opq _ => cases hd
  | set _ _ _ => cases hd
  | dki _ _ => cases hd
section
variable {X : Cx} {cs : List C} {a b c e : Expr} {es : List Expr} {pos p : Pos} {d da db : D}
theorem EX.bo (h : EX X cs e d) : EB X cs e d := fun He Hb H0 H σ Q s q => h He Hb H0 H σ Q s fun v H' H0' g r => q v H' H0' g (r.mono g.i)
theorem EB.sh (hd : d.scal = true) (h : EB X cs e d) : EX X cs e d := fun He Hb H0 H σ Q s q => h He Hb H0 H σ Q s fun v H' H0' g r => q v H' H0' g (r.scal hd)
/-- one's own new object becomes shared -/
theorem Grow.freeze {H0 H H0' H' : Hp} (g : Grow H0 H H0' H') {l : Addr} {o : HO} (hl : H l = none) (h0 : H0' l = none) (h1 : H' l = some o) : Grow H0 H (upd H0' l o) H' := by
  refine ⟨fun a u e => ?_, fun a u e => ?_, g.h, fun a u e => ?_⟩
  · rw [upd_ne (ne_of_none (g.b a u e) h0)]; exact g.b a u e
  · by_cases z : a = l
    · subst z; rw [upd_same] at e; cases e; exact h1
    · rw [upd_ne z] at e; exact g.i a u e
  · by_cases z : a = l
    · subst z; exact .inr (.inl hl)
    · rw [upd_ne z] at e; exact g.n a u e
theorem same_upd {H : Hp} {l : Addr} {o : HO} (h : H l = none) : Same H (upd H l o) := fun a u e => by rw [upd_ne (ne_of_none e h)]; exact e
theorem EO.x {ds : List D} (h : EO X cs e ds) : EX X cs e (.lst ds) := fun He Hb H0 H σ Q s q => h He Hb H0 H σ Q s fun l vs H' H0' g hl h0 h1 r =>
  q _ H' _ (g.freeze hl h0 h1) (.lst upd_same (r.mono (same_upd h0)))
theorem ED.x {ds : List ((Int × Int) × D)} (h : ED X cs e ds) : EX X cs e (.dic ds) := fun He Hb H0 H σ Q s q => h He Hb H0 H σ Q s fun l vs H' H0' g hl h0 h1 r =>
  q _ H' _ (g.freeze hl h0 h1) (.dic upd_same (r.mono (same_upd h0)))
theorem EO.bo {ds : List D} (h : EO X cs e ds) : EB X cs e (.lst ds) := h.x.bo

/-! names, constants -/
def C.rd : C → Option D
  | .any => none
  | .sh d => some d
  | .ol ds => some (.lst ds)
  | .od ds => some (.dic ds)
theorem ex_v (i : Nat) {x : Str} (hc : cs[i]? = some (.sh d) := by rfl) (hN : X.N[i]? = some x := by rfl) (hv : Vis X.env.scope x := by first | exact Or.inl rfl | exact Or.inr (Or.inl rfl) | exact Or.inr (Or.inr rfl)) (hd : (x == ("__debug__" : Str)) = false := by decide)
    (hcd : (x == ("__classdict__" : Str)) = false := by decide) : EX X cs (.Name x pos) d := fun He Hb H0 H σ Q s q => by
  obtain ⟨v, e, r⟩ := s.sl i _ hc
  exact wE_of (pe_var hN hv hd hcd) ⟨v, e, q v H H0 (Grow.refl s.i) r⟩
theorem eb_v (i : Nat) {x : Str} (hc : (cs[i]?).bind C.rd = some d := by rfl) (hN : X.N[i]? = some x := by rfl) (hv : Vis X.env.scope x := by first | exact Or.inl rfl | exact Or.inr (Or.inl rfl) | exact Or.inr (Or.inr rfl)) (hd : (x == ("__debug__" : Str)) = false := by decide)
    (hcd : (x == ("__classdict__" : Str)) = false := by decide) : EB X cs (.Name x pos) d := fun He Hb H0 H σ Q s q => by
  cases e : cs[i]? with
  | none => rw [e] at hc; cases hc
  | some c =>
    rw [e] at hc
    have z := s.sl i c e
    cases c with
    | any => cases hc
    | sh d => cases hc; obtain ⟨v, e, r⟩ := z; exact wE_of (pe_var hN hv hd hcd) ⟨v, e, q v H H0 (Grow.refl s.i) (r.mono s.i)⟩
    | ol ds => cases hc; obtain ⟨l, vs, e, _, hl, r⟩ := z; exact wE_of (pe_var hN hv hd hcd) ⟨_, e, q _ H H0 (Grow.refl s.i) (.lst hl (r.mono s.i))⟩
    | od ds => cases hc; obtain ⟨l, vs, e, _, hl, r⟩ := z; exact wE_of (pe_var hN hv hd hcd) ⟨_, e, q _ H H0 (Grow.refl s.i) (.dic hl (r.mono s.i))⟩
theorem ex_int {i : Int} {j : Nat} : EX X cs (.Constant (.int i) j pos) (.int i) := fun He Hb H0 H σ Q s q => wE_of pe_int (q _ H H0 (Grow.refl s.i) (.int i))
theorem ex_bl {k : Bool} {j : Nat} : EX X cs (.Constant (.bool k) j pos) (.bl k) := fun He Hb H0 H σ Q s q => wE_of pe_bl (q _ H H0 (Grow.refl s.i) (.bl k))
theorem ex_non {j : Nat} : EX X cs (.Constant .none j pos) .non := fun He Hb H0 H σ Q s q => wE_of pe_non (q _ H H0 (Grow.refl s.i) .non)
theorem ex_str {x : Str} {j : Nat} : EX X cs (.Constant (.str x) j pos) (.str x) := fun He Hb H0 H σ Q s q => wE_of pe_str (q _ H H0 (Grow.refl s.i) (.str x))
theorem ex_globI {x : Str} {i : Int} {t : Tok} (hm : X.mg x = some (.int i t)) (hg : Gl X x := by rfl) (hd : (x == ("__debug__" : Str)) = false := by decide) : EX X cs (.Name x pos) (.int i) := fun He Hb H0 H σ Q s q =>
  wE_of (pe_glob (v := .int i) hg hm ⟨t, rfl⟩ hd) (q _ H H0 (Grow.refl s.i) (.int i))

/-! operators -/
theorem eb_op {op : Operator} {r : R2} {z : V} (ho : OpR X (binaryOp op) r) (ha : EB X cs a da) (hb : EB X cs b db) (hd : d.scal = true) (hz : ∀ H, Rep X.K H z d)
    (hr : ∀ x y H (Q : VK), Rep X.K H x da → Rep X.K H y db → Q z H → r x y H Q) : EX X cs (.BinOp a op b pos) d := fun He Hb H0 H σ Q s q =>
  wE_of (pe_op ho pe_w pe_w) (ha _ _ _ _ _ _ s fun x H1 H01 g1 r1 => hb _ _ _ _ _ _ (s.grow g1) fun y H2 H02 g2 r2 => hr x y H2 Q (r1.mono g2.h) r2 (q _ _ _ (g1.trans g2) (hz _)))
theorem eb_cmp {op : CmpOp} {r : R2} {z : V} (ho : OpR X (compareOp op) r) (ha : EB X cs a da) (hb : EB X cs b db) (hm : behindInMarks op b = false) (hz : ∀ H, Rep X.K H z d)
    (hr : ∀ x y H (Q : VK), Rep X.K H x da → Rep X.K H y db → Q z H → r x y H Q) : EX X cs (.Compare a [op] [b] pos) d := fun He Hb H0 H σ Q s q =>
  wE_of (pe_cmpR ho pe_w pe_w hm) (ha _ _ _ _ _ _ s fun x H1 H01 g1 r1 => hb _ _ _ _ _ _ (s.grow g1) fun y H2 H02 g2 r2 => hr x y H2 Q (r1.mono g2.h) r2 (q _ _ _ (g1.trans g2) (hz _)))
theorem tx_cmp {op : CmpOp} {r : R2} {k : Bool} (ho : OpR X (compareOp op) r) (ha : EB X cs a da) (hb : EB X cs b db) (hm : behindInMarks op b = false)
    (hr : ∀ x y H (Q : VK), Rep X.K H x da → Rep X.K H y db → Q (.bl k) H → r x y H Q) : TX X cs (.Compare a [op] [b] pos) k := fun He Hb H0 H σ Q s q =>
  wT_of (pt_cmpR ho pe_w pe_w hm) (ha _ _ _ _ _ _ s fun x H1 H01 g1 r1 => hb _ _ _ _ _ _ (s.grow g1) fun y H2 H02 g2 r2 => hr x y H2 _ (r1.mono g2.h) r2 ⟨k, rfl, q _ _ (g1.trans g2)⟩)
section
variable {i j : Int} {k m : Bool}
theorem rI0_of {K : PySem.W.Frag} {g : Int → Int → V} {z : V} (hz : g i j = z) : ∀ x y H (Q : VK), Rep K H x (.int i) → Rep K H y (.int j) → Q z H → rI0 g x y H Q := fun x y H Q rx ry q => by
  cases rx; cases ry; subst hz; exact ⟨i, j, rfl, rfl, q⟩
theorem rI_of {K : PySem.W.Frag} {P : Int → Int → Prop} {g : Int → Int → V} {z : V} (hz : g i j = z) (hc : P i j) : ∀ x y H (Q : VK), Rep K H x (.int i) → Rep K H y (.int j) → Q z H → rI P g x y H Q := fun x y H Q rx ry q => by
  cases rx; cases ry; subst hz; exact ⟨i, j, rfl, rfl, hc, q⟩
theorem ex_add (ha : EB X cs a (.int i)) (hb : EB X cs b (.int j)) : EX X cs (.BinOp a .Add b pos) (.int (i + j)) := eb_op op_add ha hb rfl (fun _ => .int _) (rI0_of rfl)
theorem ex_sub (ha : EB X cs a (.int i)) (hb : EB X cs b (.int j)) : EX X cs (.BinOp a .Sub b pos) (.int (i - j)) := eb_op op_sub ha hb rfl (fun _ => .int _) (rI0_of rfl)
theorem ex_mul (ha : EB X cs a (.int i)) (hb : EB X cs b (.int j)) (hc : (-(2 ^ 64) < i ∧ i < 2 ^ 64) ∨ (-(2 ^ 64) < j ∧ j < 2 ^ 64)) : EX X cs (.BinOp a .Mult b pos) (.int (i * j)) := eb_op op_mul ha hb rfl (fun _ => .int _) (rI_of rfl hc)
theorem ex_mod (ha : EB X cs a (.int i)) (hb : EB X cs b (.int j)) (hc : 0 < j) : EX X cs (.BinOp a .Mod b pos) (.int (i % j)) := eb_op op_mod ha hb rfl (fun _ => .int _) (rI_of rfl hc)
theorem ex_fdiv (ha : EB X cs a (.int i)) (hb : EB X cs b (.int j)) (hc : 0 < j ∧ j < 1073741824) : EX X cs (.BinOp a .FloorDiv b pos) (.int (i / j)) := eb_op op_fdiv ha hb rfl (fun _ => .int _) (rI_of rfl hc)
theorem ex_pow (ha : EB X cs a (.int i)) (hb : EB X cs b (.int j)) (hc : 0 ≤ j ∧ j ≤ 1000000 ∧ i.natAbs < 2 ^ 64) : EX X cs (.BinOp a .Pow b pos) (.int (i ^ j.toNat)) := eb_op op_pow ha hb rfl (fun _ => .int _) (rI_of rfl hc)
theorem ex_neg (ha : EB X cs a (.int i)) : EX X cs (.UnaryOp .USub a pos) (.int (-i)) := fun He Hb H0 H σ Q s q =>
  wE_of (pe_un un_neg pe_w) (ha _ _ _ _ _ _ s fun x H1 H01 g1 r1 => by cases r1; exact ⟨i, rfl, q _ _ _ g1 (.int _)⟩)
theorem ex_lt (ha : EB X cs a (.int i)) (hb : EB X cs b (.int j)) : EX X cs (.Compare a [.Lt] [b] pos) (.bl (decide (i < j))) := eb_cmp op_lt ha hb (nomark _) (fun _ => .bl _) (rI0_of rfl)
theorem ex_le (ha : EB X cs a (.int i)) (hb : EB X cs b (.int j)) : EX X cs (.Compare a [.LtE] [b] pos) (.bl (decide (i ≤ j))) := eb_cmp op_le ha hb (nomark _) (fun _ => .bl _) (rI0_of rfl)
theorem ex_gt (ha : EB X cs a (.int i)) (hb : EB X cs b (.int j)) : EX X cs (.Compare a [.Gt] [b] pos) (.bl (decide (j < i))) := eb_cmp op_gt ha hb (nomark _) (fun _ => .bl _) (rI0_of rfl)
theorem ex_ge (ha : EB X cs a (.int i)) (hb : EB X cs b (.int j)) : EX X cs (.Compare a [.GtE] [b] pos) (.bl (decide (j ≤ i))) := eb_cmp op_ge ha hb (nomark _) (fun _ => .bl _) (rI0_of rfl)
theorem tx_lt (ha : EB X cs a (.int i)) (hb : EB X cs b (.int j)) : TX X cs (.Compare a [.Lt] [b] pos) (decide (i < j)) := tx_cmp op_lt ha hb (nomark _) (rI0_of rfl)
theorem tx_le (ha : EB X cs a (.int i)) (hb : EB X cs b (.int j)) : TX X cs (.Compare a [.LtE] [b] pos) (decide (i ≤ j)) := tx_cmp op_le ha hb (nomark _) (rI0_of rfl)
theorem tx_gt (ha : EB X cs a (.int i)) (hb : EB X cs b (.int j)) : TX X cs (.Compare a [.Gt] [b] pos) (decide (j < i)) := tx_cmp op_gt ha hb (nomark _) (rI0_of rfl)
theorem tx_ge (ha : EB X cs a (.int i)) (hb : EB X cs b (.int j)) : TX X cs (.Compare a [.GtE] [b] pos) (decide (j ≤ i)) := tx_cmp op_ge ha hb (nomark _) (rI0_of rfl)
theorem eqI_of {K : PySem.W.Frag} : ∀ x y H (Q : VK), Rep K H x (.int i) → Rep K H y (.int j) → Q (.bl (decide (i = j))) H → rEq x y H Q := fun x y H Q rx ry q => by
  cases rx; cases ry
  have e : decide (V.int i = V.int j) = decide (i = j) := by simp
  exact ⟨rfl, by rw [e]; exact q⟩
theorem neI_of {K : PySem.W.Frag} : ∀ x y H (Q : VK), Rep K H x (.int i) → Rep K H y (.int j) → Q (.bl (!decide (i = j))) H → rNe x y H Q := fun x y H Q rx ry q => by
  cases rx; cases ry
  have e : decide (V.int i = V.int j) = decide (i = j) := by simp
  exact ⟨rfl, by rw [e]; exact q⟩
theorem eqB_of {K : PySem.W.Frag} : ∀ x y H (Q : VK), Rep K H x (.bl k) → Rep K H y (.bl m) → Q (.bl (k == m)) H → rEq x y H Q := fun x y H Q rx ry q => by
  cases rx; cases ry
  have e : decide (V.bl k = V.bl m) = (k == m) := by cases k <;> cases m <;> rfl
  exact ⟨rfl, by rw [e]; exact q⟩
theorem neB_of {K : PySem.W.Frag} : ∀ x y H (Q : VK), Rep K H x (.bl k) → Rep K H y (.bl m) → Q (.bl (k != m)) H → rNe x y H Q := fun x y H Q rx ry q => by
  cases rx; cases ry
  have e : (!decide (V.bl k = V.bl m)) = (k != m) := by cases k <;> cases m <;> rfl
  exact ⟨rfl, by rw [e]; exact q⟩
theorem ex_eqI (ha : EB X cs a (.int i)) (hb : EB X cs b (.int j)) : EX X cs (.Compare a [.Eq] [b] pos) (.bl (decide (i = j))) := eb_cmp op_eq ha hb (nomark _) (fun _ => .bl _) eqI_of
theorem ex_neI (ha : EB X cs a (.int i)) (hb : EB X cs b (.int j)) : EX X cs (.Compare a [.NotEq] [b] pos) (.bl (!decide (i = j))) := eb_cmp op_ne ha hb (nomark _) (fun _ => .bl _) neI_of
theorem tx_eqI (ha : EB X cs a (.int i)) (hb : EB X cs b (.int j)) : TX X cs (.Compare a [.Eq] [b] pos) (decide (i = j)) := tx_cmp op_eq ha hb (nomark _) eqI_of
theorem tx_neI (ha : EB X cs a (.int i)) (hb : EB X cs b (.int j)) : TX X cs (.Compare a [.NotEq] [b] pos) (!decide (i = j)) := tx_cmp op_ne ha hb (nomark _) neI_of
theorem ex_eqB (ha : EB X cs a (.bl k)) (hb : EB X cs b (.bl m)) : EX X cs (.Compare a [.Eq] [b] pos) (.bl (k == m)) := eb_cmp op_eq ha hb (nomark _) (fun _ => .bl _) eqB_of
theorem ex_neB (ha : EB X cs a (.bl k)) (hb : EB X cs b (.bl m)) : EX X cs (.Compare a [.NotEq] [b] pos) (.bl (k != m)) := eb_cmp op_ne ha hb (nomark _) (fun _ => .bl _) neB_of
theorem tx_eqB (ha : EB X cs a (.bl k)) (hb : EB X cs b (.bl m)) : TX X cs (.Compare a [.Eq] [b] pos) (k == m) := tx_cmp op_eq ha hb (nomark _) eqB_of
theorem tx_neB (ha : EB X cs a (.bl k)) (hb : EB X cs b (.bl m)) : TX X cs (.Compare a [.NotEq] [b] pos) (k != m) := tx_cmp op_ne ha hb (nomark _) neB_of
/-- a <= b < c -/
theorem ex_leLt {l : Int} (ha : EB X cs a (.int i)) (hb : EB X cs b (.int j)) (hc : EB X cs c (.int l)) (hm : lastMarks [CmpOp.LtE, CmpOp.Lt] [b, c] = false := by with_unfolding_all rfl) :
    EX X cs (.Compare a [.LtE, .Lt] [b, c] pos) (.bl (decide (i ≤ j) && decide (j < l))) := fun He Hb H0 H σ Q s q =>
  wE_of (pe_chain op_le op_lt pe_w pe_w pe_w hm) (ha _ _ _ _ _ _ s fun x H1 H01 g1 r1 => hb _ _ _ _ _ _ (s.grow g1) fun y H2 H02 g2 r2 => by
    cases r1; cases r2
    refine ⟨i, j, rfl, rfl, _, rfl, ?_⟩
    by_cases h : i ≤ j
    · rw [if_pos (decide_eq_true h)]
      refine hc _ _ _ _ _ _ ((s.grow g1).grow g2) fun z H3 H03 g3 r3 => ?_
      cases r3
      refine ⟨j, l, rfl, rfl, ?_⟩
      rw [decide_eq_true h] at q
      exact q _ _ _ ((g1.trans g2).trans g3) (.bl _)
    · rw [if_neg (by simp [h])]
      rw [decide_eq_false h] at q
      exact q _ _ _ (g1.trans g2) (.bl _))
theorem ex_leLe {l : Int} (ha : EB X cs a (.int i)) (hb : EB X cs b (.int j)) (hc : EB X cs c (.int l)) (hm : lastMarks [CmpOp.LtE, CmpOp.LtE] [b, c] = false := by with_unfolding_all rfl) :
    EX X cs (.Compare a [.LtE, .LtE] [b, c] pos) (.bl (decide (i ≤ j) && decide (j ≤ l))) := fun He Hb H0 H σ Q s q =>
  wE_of (pe_chain op_le op_le pe_w pe_w pe_w hm) (ha _ _ _ _ _ _ s fun x H1 H01 g1 r1 => hb _ _ _ _ _ _ (s.grow g1) fun y H2 H02 g2 r2 => by
    cases r1; cases r2
    refine ⟨i, j, rfl, rfl, _, rfl, ?_⟩
    by_cases h : i ≤ j
    · rw [if_pos (decide_eq_true h)]
      refine hc _ _ _ _ _ _ ((s.grow g1).grow g2) fun z H3 H03 g3 r3 => ?_
      cases r3
      refine ⟨j, l, rfl, rfl, ?_⟩
      rw [decide_eq_true h] at q
      exact q _ _ _ ((g1.trans g2).trans g3) (.bl _)
    · rw [if_neg (by simp [h])]
      rw [decide_eq_false h] at q
      exact q _ _ _ (g1.trans g2) (.bl _))

theorem tx_leLe {l : Int} (ha : EB X cs a (.int i)) (hb : EB X cs b (.int j)) (hc : EB X cs c (.int l)) (hm : lastMarks [CmpOp.LtE, CmpOp.LtE] [b, c] = false := by with_unfolding_all rfl) :
    TX X cs (.Compare a [.LtE, .LtE] [b, c] pos) (decide (i ≤ j) && decide (j ≤ l)) := fun He Hb H0 H σ Q s q =>
  wT_of (pt_chain op_le op_le pe_w pe_w pe_w hm) (ha _ _ _ _ _ _ s fun x H1 H01 g1 r1 => hb _ _ _ _ _ _ (s.grow g1) fun y H2 H02 g2 r2 => by
    cases r1; cases r2
    refine ⟨i, j, rfl, rfl, _, rfl, ?_⟩
    by_cases h : i ≤ j
    · rw [if_pos (decide_eq_true h)]
      refine hc _ _ _ _ _ _ ((s.grow g1).grow g2) fun z H3 H03 g3 r3 => ?_
      cases r3
      refine ⟨j, l, rfl, rfl, ?_⟩
      rw [decide_eq_true h] at q
      exact ⟨_, rfl, q _ _ ((g1.trans g2).trans g3)⟩
    · rw [if_neg (by simp [h])]
      rw [decide_eq_false h] at q
      exact ⟨_, rfl, q _ _ (g1.trans g2)⟩)

theorem tx_leLt {l : Int} (ha : EB X cs a (.int i)) (hb : EB X cs b (.int j)) (hc : EB X cs c (.int l)) (hm : lastMarks [CmpOp.LtE, CmpOp.Lt] [b, c] = false := by with_unfolding_all rfl) :
    TX X cs (.Compare a [.LtE, .Lt] [b, c] pos) (decide (i ≤ j) && decide (j < l)) := fun He Hb H0 H σ Q s q =>
  wT_of (pt_chain op_le op_lt pe_w pe_w pe_w hm) (ha _ _ _ _ _ _ s fun x H1 H01 g1 r1 => hb _ _ _ _ _ _ (s.grow g1) fun y H2 H02 g2 r2 => by
    cases r1; cases r2
    refine ⟨i, j, rfl, rfl, _, rfl, ?_⟩
    by_cases h : i ≤ j
    · rw [if_pos (decide_eq_true h)]
      refine hc _ _ _ _ _ _ ((s.grow g1).grow g2) fun z H3 H03 g3 r3 => ?_
      cases r3
      refine ⟨j, l, rfl, rfl, ?_⟩
      rw [decide_eq_true h] at q
      exact ⟨_, rfl, q _ _ ((g1.trans g2).trans g3)⟩
    · rw [if_neg (by simp [h])]
      rw [decide_eq_false h] at q
      exact ⟨_, rfl, q _ _ (g1.trans g2)⟩)

/-! truth -/
theorem tx_val (h : EB X cs e (.bl k)) (he : ∀ whole, isTrue e X.env whole = (do let v ← whole; standAt e.pos; holding [v] (truthy v)) := by intro _; rfl) : TX X cs e k := fun He Hb H0 H σ Q s q =>
  wT_of (pt_val pe_w he) (h _ _ _ _ _ _ s fun x H1 H01 g1 r1 => by cases r1; exact ⟨k, rfl, q _ _ g1⟩)
theorem tx_not (h : TX X cs e k) : TX X cs (.UnaryOp .Not e pos) (!k) := fun He Hb H0 H σ Q s q =>
  wT_of (pt_not pt_w) (h _ _ _ _ _ _ s fun H1 H01 g1 => q _ _ g1)
theorem ex_not (h : EB X cs e (.bl k)) : EX X cs (.UnaryOp .Not e pos) (.bl (!k)) := fun He Hb H0 H σ Q s q =>
  wE_of (pe_not pe_w) (h _ _ _ _ _ _ s fun x H1 H01 g1 r1 => by cases r1; exact ⟨k, rfl, q _ _ _ g1 (.bl _)⟩)
theorem WB.t (h : WB X cs e k) : TX X cs e k := fun He Hb H0 H σ Q s q => wT_of (PW.pt pw_w) (h _ _ _ _ _ _ s q)
theorem wx_and1 (h : TX X cs a k) : WB X cs (.BoolOp .And [a] pos) k := fun He Hb H0 H σ Q s q => wW_of (pw_and1 pt_w) (h _ _ _ _ _ _ s q)
theorem wx_or1 (h : TX X cs a k) : WB X cs (.BoolOp .Or [a] pos) k := fun He Hb H0 H σ Q s q => wW_of (pw_or1 pt_w) (h _ _ _ _ _ _ s q)
theorem wx_and (h : TX X cs a k) (h2 : k = true → WB X cs (.BoolOp .And (b :: es) pos) m) : WB X cs (.BoolOp .And (a :: b :: es) pos) (k && m) := fun He Hb H0 H σ Q s q =>
  wW_of (pw_and pt_w pw_w) (h _ _ _ _ _ _ s fun H1 H01 g1 => by
    cases k with
    | true => rw [if_pos rfl]; exact h2 rfl _ _ _ _ _ _ (s.grow g1) fun H2 H02 g2 => q _ _ (g1.trans g2)
    | false => rw [if_neg Bool.false_ne_true]; exact q _ _ g1)
theorem wx_or (h : TX X cs a k) (h2 : k = false → WB X cs (.BoolOp .Or (b :: es) pos) m) : WB X cs (.BoolOp .Or (a :: b :: es) pos) (k || m) := fun He Hb H0 H σ Q s q =>
  wW_of (pw_or pt_w pw_w) (h _ _ _ _ _ _ s fun H1 H01 g1 => by
    cases k with
    | true => rw [if_pos rfl]; exact q _ _ g1
    | false => rw [if_neg Bool.false_ne_true]; exact h2 rfl _ _ _ _ _ _ (s.grow g1) fun H2 H02 g2 => q _ _ (g1.trans g2))
theorem ex_one {op : BoolOp} (h : EX X cs a d) : EX X cs (.BoolOp op [a] pos) d := fun He Hb H0 H σ Q s q => wE_of (pe_one pe_w) (h _ _ _ _ _ _ s q)
theorem ex_and (h : EB X cs a (.bl k)) (h2 : k = true → EX X cs (.BoolOp .And (b :: es) pos) (.bl m)) : EX X cs (.BoolOp .And (a :: b :: es) pos) (.bl (k && m)) := fun He Hb H0 H σ Q s q =>
  wE_of (pe_and pe_w pe_w) (h _ _ _ _ _ _ s fun x H1 H01 g1 r1 => by
    cases r1
    refine ⟨k, rfl, ?_⟩
    cases k with
    | true => rw [if_pos rfl]; exact h2 rfl _ _ _ _ _ _ (s.grow g1) fun v H2 H02 g2 r2 => q _ _ _ (g1.trans g2) r2
    | false => rw [if_neg Bool.false_ne_true]; exact q _ _ _ g1 (.bl _))
theorem ex_or (h : EB X cs a (.bl k)) (h2 : k = false → EX X cs (.BoolOp .Or (b :: es) pos) (.bl m)) : EX X cs (.BoolOp .Or (a :: b :: es) pos) (.bl (k || m)) := fun He Hb H0 H σ Q s q =>
  wE_of (pe_or pe_w pe_w) (h _ _ _ _ _ _ s fun x H1 H01 g1 r1 => by
    cases r1
    refine ⟨k, rfl, ?_⟩
    cases k with
    | true => rw [if_pos rfl]; exact q _ _ _ g1 (.bl _)
    | false => rw [if_neg Bool.false_ne_true]; exact h2 rfl _ _ _ _ _ _ (s.grow g1) fun v H2 H02 g2 r2 => q _ _ _ (g1.trans g2) r2)
theorem ex_if (h : TX X cs c k) (h1 : k = true → EX X cs a d) (h2 : k = false → EX X cs b d) : EX X cs (.IfExp c a b pos) d := fun He Hb H0 H σ Q s q =>
  wE_of (pe_ifExp pt_w pe_w pe_w) (h _ _ _ _ _ _ s fun H1 H01 g1 => by
    cases k with
    | true => rw [if_pos rfl]; exact h1 rfl _ _ _ _ _ _ (s.grow g1) fun v H2 H02 g2 r2 => q _ _ _ (g1.trans g2) r2
    | false => rw [if_neg Bool.false_ne_true]; exact h2 rfl _ _ _ _ _ _ (s.grow g1) fun v H2 H02 g2 r2 => q _ _ _ (g1.trans g2) r2)
theorem TX.to {k' : Bool} (h : TX X cs e k) (q : k = k') : TX X cs e k' := q ▸ h
theorem EX.to {d' : D} (h : EX X cs e d) (q : d = d') : EX X cs e d' := q ▸ h
theorem EB.to {d' : D} (h : EB X cs e d) (q : d = d') : EB X cs e d' := q ▸ h
theorem EO.to {ds es : List D} (h : EO X cs e ds) (q : ds = es) : EO X cs e es := q ▸ h
end

/-! arguments, displays -/
theorem ea_nil : EA X cs [] [] := fun He Hb H0 H σ Q s q => wA_of pa_nil (q [] H H0 (Grow.refl s.i) .nil)
theorem ea_cons {ds : List D} (h : EX X cs e d) (hr : EA X cs es ds) (hs : Pl e := by intro _ _; rfl) : EA X cs (e :: es) (d :: ds) := fun He Hb H0 H σ Q s q =>
  wA_of (pa_cons pe_w pa_w (hs _ _)) (h _ _ _ _ _ _ s fun x H1 H01 g1 r1 => hr _ _ _ _ _ _ (s.grow g1) fun vs H2 H02 g2 r2 => q _ _ _ (g1.trans g2) (.cons (r1.mono g2.b) r2))
theorem eab_nil : EAb X cs [] [] := fun He Hb H0 H σ Q s q => wA_of pa_nil (q [] H H0 (Grow.refl s.i) .nil)
theorem eab_cons {ds : List D} (h : EB X cs e d) (hr : EAb X cs es ds) (hs : Pl e := by intro _ _; rfl) : EAb X cs (e :: es) (d :: ds) := fun He Hb H0 H σ Q s q =>
  wA_of (pa_cons pe_w pa_w (hs _ _)) (h _ _ _ _ _ _ s fun x H1 H01 g1 r1 => hr _ _ _ _ _ _ (s.grow g1) fun vs H2 H02 g2 r2 => q _ _ _ (g1.trans g2) (.cons (r1.mono g2.h) r2))
theorem ex_tup {ds : List D} {x1} (h : EA X cs es ds) (hl : ds.length ≤ 1000000 := by first | exact Nat.le_of_ble_eq_true rfl | decide) : EX X cs (.Tuple es x1 pos) (.tup ds) := fun He Hb H0 H σ Q s q =>
  wE_of (pe_tup pa_w) (h _ _ _ _ _ _ s fun vs H1 H01 g1 r1 => ⟨by rw [r1.len]; exact Nat.le_trans hl (by decide), fun p hp => q _ _ _ (g1.trans (Grow.new g1.i hp)) (.tup upd_same (r1.mono (same_upd (g1.i.free hp))))⟩)
theorem eo_lst {ds : List D} (h : EA X cs es ds) (hl : ds.length ≤ 1000000 := by first | exact Nat.le_of_ble_eq_true rfl | decide) : EO X cs (.List es pos) ds := fun He Hb H0 H σ Q s q =>
  wE_of (pe_lst pa_w) (h _ _ _ _ _ _ s fun vs H1 H01 g1 r1 => ⟨by rw [r1.len]; exact Nat.le_trans hl (by decide), fun p hp => q p vs _ _ (g1.trans (Grow.own g1.i hp)) (g1.h.free hp) (g1.i.free hp) upd_same r1⟩)
theorem ed_new : ED X cs (.Dict [] [] pos) [] := fun He Hb H0 H σ Q s q =>
  wE_of pe_dnewT fun p hp => q p [] _ _ (Grow.own s.i hp) hp (s.i.free hp) upd_same .nil
end
end DL

end
section
set_option maxHeartbeats 2000000
namespace DL
open PySem PySem.Spec L2

/-! dicts keyed by pairs -/
def lk (kvs : List ((Int × Int) × D)) (k : Int × Int) : Option D := (kvs.find? fun p => decide (p.1 = k)).map (·.2)
def put (kvs : List ((Int × Int) × D)) (k : Int × Int) (d : D) : List ((Int × Int) × D) :=
  if (kvs.any fun p => decide (p.1 = k)) = true then kvs.map (fun p => if p.1 = k then (p.1, d) else p) else kvs ++ [(k, d)]
abbrev pk (i j : Int) : List Key := [Sum.inl i, Sum.inl j]
theorem pk_iff {i j a b : Int} : pk i j = pk a b ↔ (i, j) = (a, b) := by
  constructor
  · intro h
    have h1 := List.cons.inj h
    have h2 := List.cons.inj h1.2
    rw [Sum.inl.inj h1.1, Sum.inl.inj h2.1]
  · intro h
    cases h
    rfl
section
variable {K : PySem.W.Frag} {H H' : Hp}
theorem RepK.get (i j : Int) : ∀ {vs : List (List Key × V)} {ds : List ((Int × Int) × D)}, RepK K H vs ds → (valV vs (pk i j) = none ∧ lk ds (i, j) = none) ∨ ∃ v d, valV vs (pk i j) = some v ∧ lk ds (i, j) = some d ∧ Rep K H v d
  | _, _, .nil => .inl ⟨rfl, rfl⟩
  | _, _, .cons (i := a) (j := b) (v := v) (d := d) (ds := ds) r t => by
    by_cases h : (a, b) = (i, j)
    · have h' : pk a b = pk i j := pk_iff.mpr h
      refine .inr ⟨v, d, valV_pos h', ?_, r⟩
      simp [lk, List.find?_cons, h]
    · have h' : ¬ pk a b = pk i j := fun z => h (pk_iff.mp z)
      have e : lk (((a, b), d) :: ds) (i, j) = lk ds (i, j) := by
        unfold lk
        rw [List.find?_cons, decide_eq_false h]
      rcases RepK.get i j t with ⟨h1, h2⟩ | ⟨v2, d2, h1, h2, h3⟩
      · exact .inl ⟨by rw [valV_neg h']; exact h1, by rw [e]; exact h2⟩
      · exact .inr ⟨v2, d2, by rw [valV_neg h']; exact h1, by rw [e]; exact h2, h3⟩
theorem RepK.any (i j : Int) : ∀ {vs : List (List Key × V)} {ds : List ((Int × Int) × D)}, RepK K H vs ds → (vs.any fun p => decide (p.1 = pk i j)) = (ds.any fun p => decide (p.1 = (i, j)))
  | _, _, .nil => rfl
  | _, _, .cons (i := a) (j := b) r t => by
    rw [List.any_cons, List.any_cons, RepK.any i j t]
    congr 1
    by_cases h : (a, b) = (i, j)
    · rw [decide_eq_true h, decide_eq_true (pk_iff.mpr h)]
    · rw [decide_eq_false h, decide_eq_false fun z => h (pk_iff.mp z)]
theorem RepK.map (i j : Int) {v : V} {d : D} (q : Rep K H v d) : ∀ {vs : List (List Key × V)} {ds : List ((Int × Int) × D)}, RepK K H vs ds →
    RepK K H (vs.map fun p => if p.1 = pk i j then (p.1, v) else p) (ds.map fun p => if p.1 = (i, j) then (p.1, d) else p)
  | _, _, .nil => .nil
  | _, _, .cons (i := a) (j := b) r t => by
    rw [List.map_cons, List.map_cons]
    by_cases h : (a, b) = (i, j)
    · rw [if_pos h, if_pos (pk_iff.mpr h)]
      exact .cons q (RepK.map i j q t)
    · rw [if_neg h, if_neg fun z => h (pk_iff.mp z)]
      exact .cons r (RepK.map i j q t)
theorem RepK.append : ∀ {vs ws : List (List Key × V)} {ds es : List ((Int × Int) × D)}, RepK K H vs ds → RepK K H ws es → RepK K H (vs ++ ws) (ds ++ es)
  | _, _, _, _, .nil, s => s
  | _, _, _, _, .cons r t, s => .cons r (RepK.append t s)
theorem RepK.put {i j : Int} {v : V} {d : D} (q : Rep K H v d) {vs : List (List Key × V)} {ds : List ((Int × Int) × D)} (r : RepK K H vs ds) : RepK K H (putK vs (pk i j) v) (put ds (i, j) d) := by
  unfold putK DL.put
  rw [r.any i j]
  split
  · exact r.map i j q
  · exact r.append (.cons q .nil)
theorem RepK.len : ∀ {vs : List (List Key × V)} {ds : List ((Int × Int) × D)}, RepK K H vs ds → vs.length = ds.length
  | _, _, .nil => rfl
  | _, _, .cons _ r => by rw [List.length_cons, List.length_cons, RepK.len r]
theorem RepA.at_ {vs : List V} {ds : List D} {i : Int} {d : D} (r : RepA K H vs ds) (h : atI ds i = some d) : ∃ v, atI vs i = some v ∧ Rep K H v d := by
  unfold atI at h ⊢
  rw [r.len]
  cases e : ixN ds.length i with
  | none => rw [e] at h; cases h
  | some j =>
    rw [e] at h
    obtain ⟨v, h1, h2⟩ := r.getD (i := j) (d := d) h
    exact ⟨v, h1, h2⟩
theorem Rep.tup2 {v : V} {i j : Int} (h : Rep K H v (.tup [.int i, .int j])) : ∃ p, v = .ref p ∧ H p = some (.tup ((pk i j).map kV)) := by
  cases h with
  | tup e r =>
    cases r with
    | cons r1 r =>
      cases r with
      | cons r2 r =>
        cases r
        cases r1
        cases r2
        exact ⟨_, rfl, e⟩
end
section
variable {X : Cx} {cs : List C} {a b c e : Expr} {es : List Expr} {pos p : Pos} {d da db : D} {ds : List D} {i j : Int}

/-! subscripts -/
theorem ex_ixL (ha : EX X cs a (.lst ds)) (hb : EB X cs b (.int i)) (h : atI ds i = some d) (hs : PlainIx b := by intro _ _; rfl) : EX X cs (.Subscript a b pos) d := fun He Hb H0 H σ Q s q =>
  wE_of (pe_ix ix_list pe_w pe_w hs) (ha _ _ _ _ _ _ s fun x H1 H01 g1 r1 => hb _ _ _ _ _ _ (s.grow g1) fun y H2 H02 g2 r2 => by
    cases r2
    cases r1 with
    | lst hl r =>
      obtain ⟨v, h1, h2⟩ := r.at_ h
      exact ⟨_, _, i, v, rfl, rfl, SqL.of (g2.h _ _ (g1.i _ _ hl)), h1, q _ _ _ (g1.trans g2) (h2.mono g2.b)⟩)
theorem eb_ixL (ha : EB X cs a (.lst ds)) (hb : EB X cs b (.int i)) (h : atI ds i = some d) (hs : PlainIx b := by intro _ _; rfl) : EB X cs (.Subscript a b pos) d := fun He Hb H0 H σ Q s q =>
  wE_of (pe_ix ix_list pe_w pe_w hs) (ha _ _ _ _ _ _ s fun x H1 H01 g1 r1 => hb _ _ _ _ _ _ (s.grow g1) fun y H2 H02 g2 r2 => by
    cases r2
    cases r1 with
    | lst hl r =>
      obtain ⟨v, h1, h2⟩ := r.at_ h
      exact ⟨_, _, i, v, rfl, rfl, SqL.of (g2.h _ _ hl), h1, q _ _ _ (g1.trans g2) (h2.mono g2.h)⟩)
theorem ex_ixT (ha : EX X cs a (.tup ds)) (hb : EB X cs b (.int i)) (h : atI ds i = some d) (hs : PlainIx b := by intro _ _; rfl) : EX X cs (.Subscript a b pos) d := fun He Hb H0 H σ Q s q =>
  wE_of (pe_ix ix_tup pe_w pe_w hs) (ha _ _ _ _ _ _ s fun x H1 H01 g1 r1 => hb _ _ _ _ _ _ (s.grow g1) fun y H2 H02 g2 r2 => by
    cases r2
    cases r1 with
    | tup hl r =>
      obtain ⟨v, h1, h2⟩ := r.at_ h
      exact ⟨_, _, i, v, rfl, rfl, SqT.of (g2.h _ _ (g1.i _ _ hl)), h1, q _ _ _ (g1.trans g2) (h2.mono g2.b)⟩)
theorem eb_ixT (ha : EB X cs a (.tup ds)) (hb : EB X cs b (.int i)) (h : atI ds i = some d) (hs : PlainIx b := by intro _ _; rfl) : EB X cs (.Subscript a b pos) d := fun He Hb H0 H σ Q s q =>
  wE_of (pe_ix ix_tup pe_w pe_w hs) (ha _ _ _ _ _ _ s fun x H1 H01 g1 r1 => hb _ _ _ _ _ _ (s.grow g1) fun y H2 H02 g2 r2 => by
    cases r2
    cases r1 with
    | tup hl r =>
      obtain ⟨v, h1, h2⟩ := r.at_ h
      exact ⟨_, _, i, v, rfl, rfl, SqT.of (g2.h _ _ hl), h1, q _ _ _ (g1.trans g2) (h2.mono g2.h)⟩)
section
variable {kvs : List ((Int × Int) × D)} {k : Nat}
theorem ex_ixD (hr : Room k X.A) (ha : EX X cs a (.dic kvs)) (hb : EB X cs b (.tup [.int i, .int j])) (h : lk kvs (i, j) = some d) (hs : NoSl b := by intro _ _; rfl) : EX X cs (.Subscript a b pos) d := fun He Hb H0 H σ Q s q =>
  wE_of (pe_dget (hu_of hr) pe_w pe_w hs) (ha _ _ _ _ _ _ s fun x H1 H01 g1 r1 => hb _ _ _ _ _ _ (s.grow g1) fun y H2 H02 g2 r2 => by
    obtain ⟨t, rfl, ht⟩ := r2.tup2
    cases r1 with
    | dic hl r =>
      rcases r.get i j with ⟨_, h2⟩ | ⟨v, d', h1, h2, h3⟩
      · rw [h] at h2; cases h2
      · rw [h] at h2
        cases h2
        exact ⟨_, v, rfl, by rw [← h1]; exact DGet.t (g2.h _ _ (g1.i _ _ hl)) ht, q _ _ _ (g1.trans g2) (h3.mono g2.b)⟩)
theorem eb_ixD (hr : Room k X.A) (ha : EB X cs a (.dic kvs)) (hb : EB X cs b (.tup [.int i, .int j])) (h : lk kvs (i, j) = some d) (hs : NoSl b := by intro _ _; rfl) : EB X cs (.Subscript a b pos) d := fun He Hb H0 H σ Q s q =>
  wE_of (pe_dget (hu_of hr) pe_w pe_w hs) (ha _ _ _ _ _ _ s fun x H1 H01 g1 r1 => hb _ _ _ _ _ _ (s.grow g1) fun y H2 H02 g2 r2 => by
    obtain ⟨t, rfl, ht⟩ := r2.tup2
    cases r1 with
    | dic hl r =>
      rcases r.get i j with ⟨_, h2⟩ | ⟨v, d', h1, h2, h3⟩
      · rw [h] at h2; cases h2
      · rw [h] at h2
        cases h2
        exact ⟨_, v, rfl, by rw [← h1]; exact DGet.t (g2.h _ _ hl) ht, q _ _ _ (g1.trans g2) (h3.mono g2.h)⟩)
/-! in -/
theorem inD_some {K : PySem.W.Frag} {H : Hp} {vs : List (List Key × V)} (r : RepK K H vs kvs) : (valV vs (pk i j)).isSome = (lk kvs (i, j)).isSome := by
  rcases r.get i j with ⟨h1, h2⟩ | ⟨v, d', h1, h2, h3⟩
  · rw [h1, h2]; rfl
  · rw [h1, h2]; rfl
theorem ex_inD (hr : Room k X.A) (ha : EB X cs a (.tup [.int i, .int j])) (hb : EB X cs b (.dic kvs)) (hm : behindInMarks .In b = false := by rfl) : EX X cs (.Compare a [.In] [b] pos) (.bl (lk kvs (i, j)).isSome) := fun He Hb H0 H σ Q s q =>
  wE_of (pe_cmp (pc_din (hu_of hr) pe_w pe_w) hm) (ha _ _ _ _ _ _ s fun x H1 H01 g1 r1 => hb _ _ _ _ _ _ (s.grow g1) fun y H2 H02 g2 r2 => by
    obtain ⟨t, rfl, ht⟩ := r1.tup2
    cases r2 with
    | dic hl r => exact ⟨_, _, rfl, DGet.t hl (g2.h _ _ ht), q _ _ _ (g1.trans g2) (by rw [inD_some r]; exact .bl _)⟩)
theorem ex_ninD (hr : Room k X.A) (ha : EB X cs a (.tup [.int i, .int j])) (hb : EB X cs b (.dic kvs)) (hm : behindInMarks .NotIn b = false := by rfl) : EX X cs (.Compare a [.NotIn] [b] pos) (.bl (!(lk kvs (i, j)).isSome)) := fun He Hb H0 H σ Q s q =>
  wE_of (pe_cmp (pc_dnotin (hu_of hr) pe_w pe_w) hm) (ha _ _ _ _ _ _ s fun x H1 H01 g1 r1 => hb _ _ _ _ _ _ (s.grow g1) fun y H2 H02 g2 r2 => by
    obtain ⟨t, rfl, ht⟩ := r1.tup2
    cases r2 with
    | dic hl r => exact ⟨_, _, rfl, DGet.t hl (g2.h _ _ ht), q _ _ _ (g1.trans g2) (by rw [inD_some r]; exact .bl _)⟩)
theorem tx_inD (hr : Room k X.A) (ha : EB X cs a (.tup [.int i, .int j])) (hb : EB X cs b (.dic kvs)) (hm : behindInMarks .In b = false := by rfl) : TX X cs (.Compare a [.In] [b] pos) (lk kvs (i, j)).isSome := fun He Hb H0 H σ Q s q =>
  wT_of (pt_cmp (pc_din (hu_of hr) pe_w pe_w) hm) (ha _ _ _ _ _ _ s fun x H1 H01 g1 r1 => hb _ _ _ _ _ _ (s.grow g1) fun y H2 H02 g2 r2 => by
    obtain ⟨t, rfl, ht⟩ := r1.tup2
    cases r2 with
    | dic hl r => exact ⟨_, _, rfl, DGet.t hl (g2.h _ _ ht), _, rfl, by rw [inD_some r]; exact q _ _ (g1.trans g2)⟩)
theorem tx_ninD (hr : Room k X.A) (ha : EB X cs a (.tup [.int i, .int j])) (hb : EB X cs b (.dic kvs)) (hm : behindInMarks .NotIn b = false := by rfl) : TX X cs (.Compare a [.NotIn] [b] pos) (!(lk kvs (i, j)).isSome) := fun He Hb H0 H σ Q s q =>
  wT_of (pt_cmp (pc_dnotin (hu_of hr) pe_w pe_w) hm) (ha _ _ _ _ _ _ s fun x H1 H01 g1 r1 => hb _ _ _ _ _ _ (s.grow g1) fun y H2 H02 g2 r2 => by
    obtain ⟨t, rfl, ht⟩ := r1.tup2
    cases r2 with
    | dic hl r => exact ⟨_, _, rfl, DGet.t hl (g2.h _ _ ht), _, rfl, by rw [inD_some r]; exact q _ _ (g1.trans g2)⟩)
end
theorem inV_ints {ns : List Int} : inV (.int i) (ns.map V.int) = decide (i ∈ ns) := by
  unfold inV
  induction ns with
  | nil => rfl
  | cons n r ih =>
    rw [List.map_cons, List.any_cons, ih]
    have e : eqV (.int n) (.int i) = (n == i) := rfl
    rw [e]
    by_cases h : n = i
    · subst h; simp
    · have h2 : ¬ i = n := fun z => h z.symm
      simp [h, h2]
theorem flat_ints {ns : List Int} : (ns.map V.int).all flatV = true := by
  induction ns with
  | nil => rfl
  | cons n r ih => rw [List.map_cons, List.all_cons, ih]; rfl
theorem inI_of {K : PySem.W.Frag} {ns : List Int} : ∀ x y H (Q : VK), Rep K H x (.int i) → Rep K H y (.lst (ns.map D.int)) → Q (.bl (decide (i ∈ ns))) H → rIn K false x y H Q := fun x y H Q rx ry q => by
  cases rx
  cases ry with
  | lst hl r =>
    have e := r.ints_of
    subst e
    exact ⟨_, _, rfl, .inl (SqL.of hl), rfl, flat_ints, by rw [inV_ints]; exact q⟩
theorem ninI_of {K : PySem.W.Frag} {ns : List Int} : ∀ x y H (Q : VK), Rep K H x (.int i) → Rep K H y (.lst (ns.map D.int)) → Q (.bl (!decide (i ∈ ns))) H → rIn K true x y H Q := fun x y H Q rx ry q => by
  cases rx
  cases ry with
  | lst hl r =>
    have e := r.ints_of
    subst e
    exact ⟨_, _, rfl, .inl (SqL.of hl), rfl, flat_ints, by rw [inV_ints]; exact q⟩
section
variable {ns : List Int}
theorem ex_inI (ha : EB X cs a (.int i)) (hb : EB X cs b (.lst (ns.map D.int))) (hm : behindInMarks .In b = false := by rfl) : EX X cs (.Compare a [.In] [b] pos) (.bl (decide (i ∈ ns))) := eb_cmp op_in_seq ha hb hm (fun _ => .bl _) inI_of
theorem ex_ninI (ha : EB X cs a (.int i)) (hb : EB X cs b (.lst (ns.map D.int))) (hm : behindInMarks .NotIn b = false := by rfl) : EX X cs (.Compare a [.NotIn] [b] pos) (.bl (!decide (i ∈ ns))) := eb_cmp op_notIn_seq ha hb hm (fun _ => .bl _) ninI_of
theorem tx_inI (ha : EB X cs a (.int i)) (hb : EB X cs b (.lst (ns.map D.int))) (hm : behindInMarks .In b = false := by rfl) : TX X cs (.Compare a [.In] [b] pos) (decide (i ∈ ns)) := tx_cmp op_in_seq ha hb hm inI_of
theorem tx_ninI (ha : EB X cs a (.int i)) (hb : EB X cs b (.lst (ns.map D.int))) (hm : behindInMarks .NotIn b = false := by rfl) : TX X cs (.Compare a [.NotIn] [b] pos) (!decide (i ∈ ns)) := tx_cmp op_notIn_seq ha hb hm ninI_of
end

/-! built-in calls -/
theorem eb_callB {id : String} {x : Str} {r : List V → Hp → VK → Prop} {z : V} (hc : CallR X (.builtin id) r) (hm : X.mg x = none) (hv : bootBuiltins x = some (.builtin id)) (ha : EAb X cs (e :: es) ds) (hz : ∀ H, Rep X.K H z d)
    (hr : ∀ vs H (Q : VK), RepA X.K H vs ds → Q z H → r vs H Q) (hg : Gl X x := by rfl) (hn : x ≠ "__name__" := by decide) (hdb : (x == ("__debug__" : Str)) = false := by decide) (hs : Pl e := by intro _ _; rfl) (hpl : (backTo pos (starEach es X.env)).any (·.1) = false := by rfl) :
    EX X cs (.Call (.Name x p) (e :: es) [] pos) d := fun He Hb H0 H σ Q s q =>
  wE_of (pe_callB hc hg hm hv pa_w hn hdb (hs _ _) hpl) (ha _ _ _ _ _ _ s fun vs H1 H01 g1 r1 => hr vs H1 Q r1 (q _ _ _ g1 (hz _)))
theorem eb_callTy {T : String} {x : Str} {r : List V → Hp → VK → Prop} {z : V} (hc : CallR X (.type T) r) (hm : X.mg x = none) (hv : bootBuiltins x = some (.type T)) (ha : EAb X cs (e :: es) ds) (hz : ∀ H, Rep X.K H z d)
    (hr : ∀ vs H (Q : VK), RepA X.K H vs ds → Q z H → r vs H Q) (hg : Gl X x := by rfl) (hn : x ≠ "__name__" := by decide) (hdb : (x == ("__debug__" : Str)) = false := by decide) (hs : Pl e := by intro _ _; rfl) (hpl : (backTo pos (starEach es X.env)).any (·.1) = false := by rfl) :
    EX X cs (.Call (.Name x p) (e :: es) [] pos) d := fun He Hb H0 H σ Q s q =>
  wE_of (pe_callTy hc hg hm hv pa_w hn hdb (hs _ _) hpl) (ha _ _ _ _ _ _ s fun vs H1 H01 g1 r1 => hr vs H1 Q r1 (q _ _ _ g1 (hz _)))
theorem ex_lenL (hm : X.mg "len" = none) (ha : EB X cs a (.lst ds)) (hg : Gl X "len" := by rfl) (hs : Pl a := by intro _ _; rfl) : EX X cs (.Call (.Name "len" p) [a] [] pos) (.int ds.length) :=
  eb_callB call_len_seq hm PySem.boot_len (eab_cons ha eab_nil hs) (fun _ => .int _) (fun vs H Q r q => by
    cases r with
    | cons r1 r => cases r; cases r1 with
      | lst hl r => exact ⟨_, _, rfl, .inl (SqL.of hl), by rw [r.len]; exact q⟩) hg (by decide) (by decide) hs rfl
theorem ex_lenT (hm : X.mg "len" = none) (ha : EB X cs a (.tup ds)) (hg : Gl X "len" := by rfl) (hs : Pl a := by intro _ _; rfl) : EX X cs (.Call (.Name "len" p) [a] [] pos) (.int ds.length) :=
  eb_callB call_len_seq hm PySem.boot_len (eab_cons ha eab_nil hs) (fun _ => .int _) (fun vs H Q r q => by
    cases r with
    | cons r1 r => cases r; cases r1 with
      | tup hl r => exact ⟨_, _, rfl, .inr (SqT.of hl), by rw [r.len]; exact q⟩) hg (by decide) (by decide) hs rfl
theorem ex_lenD {kvs : List ((Int × Int) × D)} (hm : X.mg "len" = none) (ha : EB X cs a (.dic kvs)) (hg : Gl X "len" := by rfl) (hs : Pl a := by intro _ _; rfl) : EX X cs (.Call (.Name "len" p) [a] [] pos) (.int kvs.length) :=
  eb_callB call_len_dT hm PySem.boot_len (eab_cons ha eab_nil hs) (fun _ => .int _) (fun vs H Q r q => by
    cases r with
    | cons r1 r => cases r; cases r1 with
      | dic hl r => exact ⟨_, _, rfl, hl, by rw [r.len]; exact q⟩) hg (by decide) (by decide) hs rfl
theorem ex_intB {k : Bool} (hm : X.mg "int" = none) (ha : EB X cs a (.bl k)) (hg : Gl X "int" := by rfl) (hs : Pl a := by intro _ _; rfl) : EX X cs (.Call (.Name "int" p) [a] [] pos) (.int (if k then 1 else 0)) :=
  eb_callTy call_int1 hm (by decide +kernel) (eab_cons ha eab_nil hs) (fun _ => .int _) (fun vs H Q r q => by
    cases r with
    | cons r1 r => cases r; cases r1; exact .inr ⟨_, rfl, q⟩) hg (by decide) (by decide) hs rfl
/-- the script -/
theorem ex_lenS {ns : List Int} (hm : X.mg "len" = none) (ha : EB X cs a (.scr ns)) (hg : Gl X "len" := by rfl) (hs : Pl a := by intro _ _; rfl) : EX X cs (.Call (.Name "len" p) [a] [] pos) (.int ns.length) :=
  eb_callB call_len_seq hm PySem.boot_len (eab_cons ha eab_nil hs) (fun _ => .int _) (fun vs H Q r q => by
    cases r with
    | cons r1 r => cases r; cases r1 with
      | scr hl => exact ⟨_, _, rfl, .inl hl, by rw [List.length_map]; exact q⟩) hg (by decide) (by decide) hs rfl
theorem ex_ixS {ns : List Int} (ha : EX X cs a (.scr ns)) (hb : EB X cs b (.int i)) (h : atI ns i = some j) (hs : PlainIx b := by intro _ _; rfl) : EX X cs (.Subscript a b pos) (.int j) := fun He Hb H0 H σ Q s q =>
  wE_of (pe_ix ix_list pe_w pe_w hs) (ha _ _ _ _ _ _ s fun x H1 H01 g1 r1 => hb _ _ _ _ _ _ (s.grow g1) fun y H2 H02 g2 r2 => by
    cases r2
    cases r1 with
    | scr hl =>
      refine ⟨_, _, i, .int j, rfl, rfl, Same.seq g2.h (Same.seq g1.i hl), ?_, q _ _ _ (g1.trans g2) (.int _)⟩
      unfold atI at h ⊢
      rw [List.length_map]
      cases e : ixN ns.length i with
      | none => rw [e] at h; cases h
      | some m =>
        rw [e] at h
        show (ns.map V.int)[m]? = _
        rw [List.getElem?_map, show ns[m]? = some j from h]
        rfl)
/-- list(xs), a new list of one's own -/
theorem eo_list (hm : X.mg "list" = none) (ha : EX X cs a (.lst ds)) (hg : Gl X "list" := by rfl) (hs : Pl a := by intro _ _; rfl) : EO X cs (.Call (.Name "list" p) [a] [] pos) ds := fun He Hb H0 H σ Q s q =>
  wE_of (pe_callTy call_list_of hg hm (by decide +kernel) pa_w (by decide) (by decide) (hs _ _) rfl) (ea_cons ha ea_nil hs _ _ _ _ _ _ s fun vs H1 H01 g1 r1 => by
    cases r1 with
    | cons r1 r => cases r; cases r1 with
      | lst hl r => exact ⟨_, _, rfl, .inl (SqL.of (g1.i _ _ hl)), fun l hn => q l _ _ _ (g1.trans (Grow.own g1.i hn)) (g1.h.free hn) (g1.i.free hn) upd_same r⟩)
/-- list(xs), xs one's own in slot i -/
theorem eo_listO (i : Nat) {x : Str} {p2 : Pos} (hc : cs[i]? = some (.ol ds)) (hm : X.mg "list" = none) (hg : Gl X "list" := by rfl) (hN : X.N[i]? = some x := by rfl) (hv : Vis X.env.scope x := by first | exact Or.inl rfl | exact Or.inr (Or.inl rfl) | exact Or.inr (Or.inr rfl))
    (hd : (x == ("__debug__" : Str)) = false := by decide) (hcd : (x == ("__classdict__" : Str)) = false := by decide) : EO X cs (.Call (.Name "list" p) [.Name x p2] [] pos) ds := fun He Hb H0 H σ Q s q => by
  obtain ⟨l0, vs, e, h0, hl, r⟩ := s.sl i _ hc
  refine wE_of (pe_callTy call_list_of hg hm (by decide +kernel) (pa_cons (pe_var hN hv hd hcd) pa_nil) (by decide) (by decide) rfl rfl) ?_
  refine ⟨_, e, ?_⟩
  exact ⟨l0, vs, rfl, .inl (SqL.of hl), fun l hn => q l _ _ _ (Grow.own s.i hn) hn (s.i.free hn) upd_same r⟩
theorem ex_tupleL (hm : X.mg "tuple" = none) (ha : EX X cs a (.lst ds)) (hg : Gl X "tuple" := by rfl) (hs : Pl a := by intro _ _; rfl) : EX X cs (.Call (.Name "tuple" p) [a] [] pos) (.tup ds) := fun He Hb H0 H σ Q s q =>
  wE_of (pe_callTy call_tuple_of hg hm (by decide +kernel) pa_w (by decide) (by decide) (hs _ _) rfl) (ea_cons ha ea_nil hs _ _ _ _ _ _ s fun vs H1 H01 g1 r1 => by
    cases r1 with
    | cons r1 r => cases r; cases r1 with
      | lst hl r => exact ⟨_, _, rfl, .inl ⟨SqL.of (g1.i _ _ hl), fun l hn => q _ _ _ (g1.trans (Grow.new g1.i hn)) (.tup upd_same (r.mono (same_upd (g1.i.free hn))))⟩⟩)
/-- all tuples are shared -/
def tups (H0 H : Hp) : Hp := fun a => match H0 a with
  | some o => some o
  | none => match H a with
    | some (.tup xs) => some (.tup xs)
    | _ => none
theorem Grow.tups {H0 H : Hp} (i : Same H0 H) : Grow H0 H (tups H0 H) H := by
  refine ⟨fun a o e => ?_, fun a o e => ?_, Same.refl _, fun a o e => ?_⟩
  · unfold DL.tups; rw [e]
  · unfold DL.tups at e
    cases h : H0 a with
    | some u => rw [h] at e; cases e; exact i a _ h
    | none =>
      rw [h] at e
      dsimp only at e
      split at e
      · rename_i xs h2; cases e; exact h2
      · cases e
  · unfold DL.tups at e
    cases h : H0 a with
    | some u => rw [h] at e; cases e; exact .inl rfl
    | none =>
      rw [h] at e
      dsimp only at e
      split at e
      · rename_i xs h2; cases e; exact .inr (.inr ⟨_, rfl⟩)
      · cases e
theorem tups_at {H0 H : Hp} {a : Addr} {xs : List V} (i : Same H0 H) (h : H a = some (.tup xs)) : tups H0 H a = some (.tup xs) := by
  unfold tups
  cases e : H0 a with
  | some u =>
    have z := i a u e
    rw [h] at z
    cases z
    rfl
  | none =>
    dsimp only
    rw [h]
theorem keys_rep {K : PySem.W.Frag} {H0 H G : Hp} (i : Same H0 H) : ∀ {vs : List (List Key × V)} {ds : List ((Int × Int) × D)} {bs : List Addr}, RepK K G vs ds → IsKeys H vs bs → RepA K (tups H0 H) (bs.map V.ref) (ds.map fun p => .tup [.int p.1.1, .int p.1.2])
  | _, _, [], .nil, _ => .nil
  | _, _, b :: bs, .cons r t, .cons h k => .cons (.tup (tups_at i h) (.cons (.int _) (.cons (.int _) .nil))) (keys_rep i t k)
/-- list(d): the keys -/
theorem eo_listD {kvs : List ((Int × Int) × D)} (hcl : X.calm = true) (hm : X.mg "list" = none) (ha : EB X cs a (.dic kvs)) (hg : Gl X "list" := by rfl) (hs : Pl a := by intro _ _; rfl) : EO X cs (.Call (.Name "list" p) [a] [] pos) (kvs.map fun p => .tup [.int p.1.1, .int p.1.2]) := fun He Hb H0 H σ Q s q =>
  wE_of (pe_callTy (call_list_dT hcl) hg hm (by decide +kernel) pa_w (by decide) (by decide) (hs _ _) rfl) (eab_cons ha eab_nil hs _ _ _ _ _ _ s fun vs H1 H01 g1 r1 => by
    cases r1 with
    | cons r1 r => cases r; cases r1 with
      | dic hl r =>
        refine ⟨_, _, rfl, .inl hl, fun l bs hn hk => ?_⟩
        have g2 := g1.trans (Grow.tups g1.i)
        exact q l _ _ _ (g2.trans (Grow.own g2.i hn)) (g1.h.free hn) (g2.i.free hn) upd_same (keys_rep g1.i r hk))
end
end DL

end
section
set_option maxHeartbeats 2000000
namespace DL
open PySem PySem.Spec L2

/-! equality of data made of ints, None, lists, tuples -/
mutual
def D.py : D → PyData
  | .non => .none
  | .bl b => .bool b
  | .int i => .int i
  | .str x => .str x
  | .lst xs => .list (pyA xs)
  | .tup xs => .tuple (pyA xs)
  | .dic _ => .none
  | .obj _ _ => .none
  | .scr _ => .none
  | .opq _ => .none
  | .set _ _ _ => .none
  | .dki _ => .none
def pyA : List D → List PyData
  | [] => []
  | x :: r => x.py :: pyA r
end
/-- ints, None, lists, tuples, at most n deep -/
def Sh : Nat → D → Prop
  | _, .non => True
  | _, .int _ => True
  | n + 1, .lst ds => ∀ d ∈ ds, Sh n d
  | n + 1, .tup ds => ∀ d ∈ ds, Sh n d
  | _, _ => False
theorem sh_int {n : Nat} {i : Int} : Sh n (.int i) := by cases n <;> exact True.intro
theorem sh_non {n : Nat} : Sh n .non := by cases n <;> exact True.intro
theorem sh_map {α : Type} {n : Nat} {f : α → D} {l : List α} (h : ∀ x ∈ l, Sh n (f x)) : Sh (n + 1) (.lst (l.map f)) := fun d hd => by
  obtain ⟨x, hx, e⟩ := List.mem_map.mp hd
  rw [← e]
  exact h x hx
theorem sh_pair {n : Nat} {i j : Int} : Sh (n + 1) (.tup [.int i, .int j]) := fun d hd => by
  rcases List.mem_cons.mp hd with e | hd
  · rw [e]; exact sh_int
  · rw [List.mem_singleton.mp hd]; exact sh_int
theorem sh_ints {n : Nat} {l : List Int} : Sh (n + 1) (.lst (l.map D.int)) := sh_map fun _ _ => sh_int
abbrev dP (p : Int × Int) : D := .tup [.int p.1, .int p.2]
theorem sh_pairs {n : Nat} {l : List (Int × Int)} : Sh (n + 2) (.lst (l.map dP)) := sh_map fun _ _ => sh_pair
theorem dpAll {K : PySem.W.Frag} {H : Hp} : ∀ {vs : List V} {ds : List D}, (∀ d ∈ ds, ∀ v, Rep K H v d → Dp K H v d.py) → RepA K H vs ds → DpAll K H vs (pyA ds)
  | _, _, _, .nil => .nil
  | _, _, h, .cons r t => .cons (h _ (by simp) _ r) (dpAll (fun d hd => h d (by simp [hd])) t)
theorem sh_dp {K : PySem.W.Frag} {H : Hp} : ∀ {n : Nat} {d : D} {v : V}, Sh n d → Rep K H v d → Dp K H v d.py := by
  intro n
  induction n with
  | zero =>
    intro d v hs r
    cases r with
    | non => exact .non
    | int i => exact .int i
    | bl b => exact hs.elim
    | str b => exact hs.elim
    | lst _ _ => exact hs.elim
    | tup _ _ => exact hs.elim
    | dic _ _ => exact hs.elim
    | obj _ _ => exact hs.elim
    | scr _ => exact hs.elim
    | opq _ => exact hs.elim
    | set _ _ _ => exact hs.elim
    | dki _ _ => exact hs.elim
  | succ n ih =>
    intro d v hs r
    cases r with
    | non => exact .non
    | int i => exact .int i
    | bl b => exact hs.elim
    | str b => exact hs.elim
    | lst h r => exact .lst (SqL.of h) (dpAll (fun d hd v r => ih (hs d hd) r) r)
    | tup h r => exact .tup (SqT.of h) (dpAll (fun d hd v r => ih (hs d hd) r) r)
    | dic _ _ => exact hs.elim
    | obj _ _ => exact hs.elim
    | scr _ => exact hs.elim
    | opq _ => exact hs.elim
    | set _ _ _ => exact hs.elim
    | dki _ _ => exact hs.elim
theorem layA : ∀ {ds : List D}, (∀ d ∈ ds, d.py.canLay0 = true) → PyData.canLayAll0 (pyA ds) = true
  | [], _ => by unfold pyA; rfl
  | d :: r, h => by
    unfold pyA PyData.canLayAll0
    rw [h d (by simp), layA fun d hd => h d (by simp [hd])]
    rfl
theorem depA {n : Nat} : ∀ {ds : List D}, (∀ d ∈ ds, d.py.depth ≤ n) → PyData.depthAll (pyA ds) ≤ n
  | [], _ => by unfold pyA PyData.depthAll; omega
  | d :: r, h => by
    unfold pyA PyData.depthAll
    have h1 := h d (by simp)
    have h2 := depA (n := n) (ds := r) fun d hd => h d (by simp [hd])
    omega
theorem sh_lay : ∀ {n : Nat} {d : D}, Sh n d → d.py.canLay0 = true ∧ d.py.depth ≤ n := by
  intro n
  induction n with
  | zero =>
    intro d hs
    cases d <;> first | exact hs.elim | (unfold D.py PyData.canLay0 PyData.depth; exact ⟨rfl, Nat.le_refl _⟩)
  | succ n ih =>
    intro d hs
    cases d with
    | non => unfold D.py PyData.canLay0 PyData.depth; exact ⟨rfl, Nat.zero_le _⟩
    | int i => unfold D.py PyData.canLay0 PyData.depth; exact ⟨rfl, Nat.zero_le _⟩
    | lst ds =>
      unfold D.py PyData.canLay0 PyData.depth
      exact ⟨layA fun d hd => (ih (hs d hd)).1, Nat.succ_le_succ (depA fun d hd => (ih (hs d hd)).2)⟩
    | tup ds =>
      unfold D.py PyData.canLay0 PyData.depth
      exact ⟨layA fun d hd => (ih (hs d hd)).1, Nat.succ_le_succ (depA fun d hd => (ih (hs d hd)).2)⟩
    | bl b => exact hs.elim
    | str b => exact hs.elim
    | dic b => exact hs.elim
    | obj b _ => exact hs.elim
    | scr _ => exact hs.elim
    | opq _ => exact hs.elim
    | set _ _ _ => exact hs.elim
    | dki _ => exact hs.elim
theorem sh_shaped {n : Nat} {d : D} (hn : n ≤ 64) (h : Sh n d) : SeqAt.shaped d.py = true := by
  obtain ⟨h1, h2⟩ := sh_lay h
  unfold SeqAt.shaped
  rw [h1, decide_eq_true (Nat.le_trans h2 hn)]
  rfl
theorem eqvA_iff : ∀ {as bs : List D}, (∀ a ∈ as, ∀ b ∈ bs, PyData.eqv a.py b.py = true ↔ a = b) → (PyData.eqvAll (pyA as) (pyA bs) = true ↔ as = bs)
  | [], [], _ => by unfold pyA PyData.eqvAll; simp
  | [], b :: bs, _ => by unfold pyA PyData.eqvAll; simp
  | a :: as, [], _ => by unfold pyA PyData.eqvAll; simp
  | a :: as, b :: bs, h => by
    unfold pyA PyData.eqvAll
    rw [Bool.and_eq_true, h a (by simp) b (by simp), eqvA_iff fun x hx y hy => h x (by simp [hx]) y (by simp [hy])]
    constructor
    · rintro ⟨rfl, rfl⟩; rfl
    · intro e; cases e; exact ⟨rfl, rfl⟩
def eqS (a b : D) : Bool := PyData.eqv a.py b.py
theorem eqS_iff : ∀ {n m : Nat} {a b : D}, Sh n a → Sh m b → (eqS a b = true ↔ a = b) := by
  intro n
  induction n with
  | zero =>
    intro m a b ha hb
    unfold eqS
    cases a <;> first | exact ha.elim | (cases m <;> cases b <;> first | exact hb.elim | (unfold D.py PyData.eqv; simp))
  | succ n ih =>
    intro m a b ha hb
    unfold eqS
    cases m with
    | zero => cases a <;> first | exact ha.elim | (cases b <;> first | exact hb.elim | (unfold D.py PyData.eqv; simp))
    | succ m =>
      cases a with
      | bl b => exact ha.elim
      | str b => exact ha.elim
      | dic b => exact ha.elim
      | obj b _ => exact ha.elim
      | scr _ => exact ha.elim
      | opq _ => exact ha.elim
      | set _ _ _ => exact ha.elim
      | dki _ => exact ha.elim
      | non => cases b <;> first | exact hb.elim | (unfold D.py PyData.eqv; simp)
      | int i => cases b <;> first | exact hb.elim | (unfold D.py PyData.eqv; simp)
      | lst as =>
        cases b with
        | lst bs =>
          unfold D.py PyData.eqv
          rw [eqvA_iff fun a ma b mb => ih (ha a ma) (hb b mb)]
          constructor
          · intro e; rw [e]
          · intro e; cases e; rfl
        | _ => first | exact hb.elim | (unfold D.py PyData.eqv; simp)
      | tup as =>
        cases b with
        | tup bs =>
          unfold D.py PyData.eqv
          rw [eqvA_iff fun a ma b mb => ih (ha a ma) (hb b mb)]
          constructor
          · intro e; rw [e]
          · intro e; cases e; rfl
        | _ => first | exact hb.elim | (unfold D.py PyData.eqv; simp)
theorem eqS_self {n : Nat} {a b : D} (h : Sh n a) (e : a = b) : eqS a b = true := by subst e; exact (eqS_iff h h).mpr rfl
theorem eqS_no {n m : Nat} {a b : D} (h : Sh n a) (h2 : Sh m b) (e : a ≠ b) : eqS a b = false := Bool.eq_false_iff.mpr fun z => e ((eqS_iff h h2).mp z)
section
variable {X : Cx} {cs : List C} {a b c e o : Expr} {es : List Expr} {pos p apos : Pos} {d da db : D} {ds : List D} {i j : Int} {k n : Nat}
theorem eqS_of {K : PySem.W.Frag} {n m : Nat} (ha : Sh n da) (hb : Sh m db) (hn : n ≤ 64) (hm : m ≤ 64) : ∀ x y H (Q : VK), Rep K H x da → Rep K H y db → Q (.bl (eqS da db)) H → rEqD K x y H Q :=
  fun x y H Q rx ry q => ⟨_, _, sh_dp ha rx, sh_dp hb ry, sh_shaped hn ha, sh_shaped hm hb, q⟩
theorem neS_of {K : PySem.W.Frag} {n m : Nat} (ha : Sh n da) (hb : Sh m db) (hn : n ≤ 64) (hm : m ≤ 64) : ∀ x y H (Q : VK), Rep K H x da → Rep K H y db → Q (.bl (!eqS da db)) H → rNeD K x y H Q :=
  fun x y H Q rx ry q => ⟨_, _, sh_dp ha rx, sh_dp hb ry, sh_shaped hn ha, sh_shaped hm hb, q⟩
theorem ex_eqS {m : Nat} (hr : Room k X.A) (ha : EB X cs a da) (hb : EB X cs b db) (sa : Sh n da) (sb : Sh m db) (hn : n ≤ 64 := by decide) (hm : m ≤ 64 := by decide) : EX X cs (.Compare a [.Eq] [b] pos) (.bl (eqS da db)) := eb_cmp (op_eqD hr.units) ha hb (nomark _) (fun _ => .bl _) (eqS_of sa sb hn hm)
theorem ex_neS {m : Nat} (hr : Room k X.A) (ha : EB X cs a da) (hb : EB X cs b db) (sa : Sh n da) (sb : Sh m db) (hn : n ≤ 64 := by decide) (hm : m ≤ 64 := by decide) : EX X cs (.Compare a [.NotEq] [b] pos) (.bl (!eqS da db)) := eb_cmp (op_neD hr.units) ha hb (nomark _) (fun _ => .bl _) (neS_of sa sb hn hm)
theorem tx_eqS {m : Nat} (hr : Room k X.A) (ha : EB X cs a da) (hb : EB X cs b db) (sa : Sh n da) (sb : Sh m db) (hn : n ≤ 64 := by decide) (hm : m ≤ 64 := by decide) : TX X cs (.Compare a [.Eq] [b] pos) (eqS da db) := tx_cmp (op_eqD hr.units) ha hb (nomark _) (eqS_of sa sb hn hm)
theorem tx_neS {m : Nat} (hr : Room k X.A) (ha : EB X cs a da) (hb : EB X cs b db) (sa : Sh n da) (sb : Sh m db) (hn : n ≤ 64 := by decide) (hm : m ≤ 64 := by decide) : TX X cs (.Compare a [.NotEq] [b] pos) (!eqS da db) := tx_cmp (op_neD hr.units) ha hb (nomark _) (neS_of sa sb hn hm)

/-! isinstance of a built-in class -/
def D.ty : D → String
  | .non => "NoneType"
  | .bl _ => "bool"
  | .int _ => "int"
  | .str _ => "str"
  | .lst _ => "list"
  | .tup _ => "tuple"
  | .dic _ => "dict"
  | .obj _ _ => "object"
  | .scr _ => "list"
  | .opq _ => "object"
  | .set _ _ _ => "set"
  | .dki _ => "dict"
def D.noObj : D → Bool
  | .obj _ _ => false
  | .opq _ => false
  | .set _ _ _ => false
  | .dki _ => false
  | _ => true
theorem Rep.ty {K : PySem.W.Frag} {H : Hp} {v : V} {d : D} (h : Rep K H v d) (no : d.noObj = true) : TyX K H v (.type d.ty) := by
  cases h with
  | non => exact .base .non
  | bl b => exact .base (.bl b)
  | int b => exact .base (.int b)
  | str b => exact .base (.str b)
  | lst h r => exact .base (.lst h)
  | scr h =>
    rcases h with (h | ⟨o, h⟩) | ⟨o, its, n, h, hc, _⟩
    · exact .base (.lst h)
    · exact .base (.frz h)
    · exact .kList h hc
  | tup h r => exact .base (.tup h)
  | dic h r => exact .base (.dT h)
  | obj h r => cases no
  | opq _ => cases no
  | set _ _ _ => cases no
  | dki _ _ => cases no
theorem ex_isi {T : String} {x : Str} {bb : Bool} {p2 : Pos} (hm : X.mg "isinstance" = none) (hx : X.mg x = none) (ha : EB X cs a d) (hv : bootBuiltins x = some (.type T)) (hk : kitB d.ty T = some bb) (no : d.noObj = true := by rfl)
    (hg : Gl X "isinstance" := by rfl) (hgx : Gl X x := by rfl) (hn : x ≠ "__name__" := by decide) (hdb : (x == ("__debug__" : Str)) = false := by decide) (hs : Pl a := by intro _ _; rfl) : EX X cs (.Call (.Name "isinstance" p) [a, .Name x p2] [] pos) (.bl bb) := fun He Hb H0 H σ Q s q =>
  wE_of (pe_callB call_isi hg hm (by decide +kernel) (pa_cons pe_w (pa_cons (pe_bltn (v := .ty T) hgx hx hv rfl hn hdb) pa_nil) (hs _ _)) (by decide) (by decide) (hs _ _) rfl) (ha _ _ _ _ _ _ s fun v H1 H01 g1 r1 =>
    ⟨v, .ty T, _, _, bb, rfl, .ty T, r1.ty no, kit_ty hk, q _ _ _ g1 (.bl _)⟩)

/-! attributes, calls -/
theorem ex_fld {f : Str} {Cl : Addr} {fs : List (Str × D)} (hc : Cls X.K Cl) (hn : NoAttr X.K Cl f) (ha : EX X cs a (.obj Cl fs)) (hl : fs.lookup f = some d) (hb : attributeBase a f X.env (eval a X.env) = eval a X.env := by rfl) : EX X cs (.Attribute a f pos) d := fun He Hb H0 H σ Q s q =>
  wE_of (pe_fld pe_w hb) (ha _ _ _ _ _ _ s fun x H1 H01 g1 r1 => by
    cases r1 with
    | obj h r =>
      obtain ⟨v, h1, h2⟩ := r.look hl
      exact ⟨_, Cl, _, _, v, rfl, g1.i _ _ h, hc, hn, h1, q _ _ _ g1 h2⟩)
inductive Out where
  | ret (d : D) | exc (Cl : Addr)
/-- a def's promise over data: R tells, of the arguments, what may come out -/
def spD (K : PySem.W.Frag) (R : List D → (Out → Prop) → Prop) : Sp := fun vs H Q E => ∃ (H0 : Hp) (ds : List D) (post : Out → Prop), Same H0 H ∧ RepA K H0 vs ds ∧ R ds post ∧
  (∀ d v H' H0', post (.ret d) → Grow H0 H H0' H' → Rep K H0' v d → Q v H') ∧ ∀ Cl H', post (.exc Cl) → Same H H' → E (.ref Cl) none H'
structure FnC (P : Program) (w : World) (K : PySem.W.Frag) (mg : Str → Option Value) (base : Heap) (CX : CXT) (k : Nat) (x : Str) (R : List D → (Out → Prop) → Prop) : Prop where
  ex : ∃ f fd ps, FnOk P w K mg base CX k f fd ps (spD K R) ∧ mg x = some (.ref f) ∧ PySem.W.keepIn K (.ref f) = true ∧ Binds K fd ps []
structure MtC (P : Program) (w : World) (K : PySem.W.Frag) (mg : Str → Option Value) (base : Heap) (CX : CXT) (k : Nat) (Cl : Addr) (m : Str) (f : Addr) (fd : FuncData) (ps : List Str) (R : List D → (Out → Prop) → Prop) : Prop where
  ok : FnOk P w K mg base CX k f fd ps (spD K R)
  me : Meth K Cl m f
  bi : Binds K fd ps []
section
variable {CX : CXT} {x : Str} {R : List D → (Out → Prop) → Prop} {E : XK}
theorem ex_call (F : FnC X.prog X.w X.K X.mg X.base CX k x R) (hr : Room k X.A) (hx : Passes CX X E) (ha : EA X cs (e :: es) ds) (h : R ds (fun o => o = .ret d)) (hg : Gl X x := by rfl) (hdb : (x == ("__debug__" : Str)) = false := by decide) (hs : Pl e := by intro _ _; rfl)
    (hpl : (backTo pos (starEach es X.env)).any (·.1) = false := by rfl) : EX X cs (.Call (.Name x p) (e :: es) [] pos) d := fun He Hb H0 H σ Q s q => by
  obtain ⟨f, fd, ps, ok, hm, hk, hb⟩ := F.ex
  exact wE_of (pe_call ok hr hg hm hk hb .nil hx pa_w hdb (hs _ _) hpl) (ha _ _ _ _ _ _ s fun vs H1 H01 g1 r1 => ⟨H01, ds, _, g1.i, by rw [List.append_nil]; exact r1, h, fun d' v H2 H02 e g2 r2 => by cases e; exact q _ _ _ (g1.trans g2) r2, fun _ _ e => nomatch e⟩)
/-- the arguments borrowed, a scalar out -/
theorem ex_callb (F : FnC X.prog X.w X.K X.mg X.base CX k x R) (hr : Room k X.A) (hx : Passes CX X E) (ha : EAb X cs (e :: es) ds) (h : R ds (fun o => o = .ret d)) (hd : d.scal = true := by rfl) (hg : Gl X x := by rfl) (hdb : (x == ("__debug__" : Str)) = false := by decide) (hs : Pl e := by intro _ _; rfl)
    (hpl : (backTo pos (starEach es X.env)).any (·.1) = false := by rfl) : EX X cs (.Call (.Name x p) (e :: es) [] pos) d := fun He Hb H0 H σ Q s q => by
  obtain ⟨f, fd, ps, ok, hm, hk, hb⟩ := F.ex
  exact wE_of (pe_call ok hr hg hm hk hb .nil hx pa_w hdb (hs _ _) hpl) (ha _ _ _ _ _ _ s fun vs H1 H01 g1 r1 => ⟨H1, ds, _, Same.refl _, by rw [List.append_nil]; exact r1, h, fun d' v H2 H02 e g2 r2 => by
    cases e
    exact q _ _ _ (g1.trans ⟨Same.refl _, g1.i.trans g2.h, g2.h, fun _ _ e => .inl e⟩) (r2.scal hd), fun _ _ e => nomatch e⟩)
theorem ex_meth {Cl f : Addr} {fd : FuncData} {ps : List Str} {fs : List (Str × D)} {m : Str} (hp : PE X (.Call (.Attribute o m apos) es [] pos) (tMeth Cl m (spD X.K R) [] E (wE X o) (wA X es))) (ho : EX X cs o (.obj Cl fs)) (hl : fs.lookup m = none)
    (ha : EA X cs es ds) (h : R (.obj Cl fs :: ds) (fun o => o = .ret d)) : EX X cs (.Call (.Attribute o m apos) es [] pos) d := fun He Hb H0 H σ Q s q =>
  wE_of hp (ho _ _ _ _ _ _ s fun x H1 H01 g1 r1 => by
    cases r1 with
    | obj h1 r1 =>
      refine ⟨_, _, _, rfl, g1.i _ _ h1, r1.nolook hl, ?_⟩
      refine ha _ _ _ _ _ _ (s.grow g1) fun vs H2 H02 g2 r2 => ?_
      exact ⟨H02, _, _, g2.i, by rw [List.append_nil]; exact .cons (.obj (g2.b _ _ h1) (r1.mono g2.b)) r2, h, fun d' v H3 H03 e g3 r3 => by cases e; exact q _ _ _ ((g1.trans g2).trans g3) r3, fun _ _ e => nomatch e⟩)
end

/-! sorted -/
def sortI (l : List Int) : List Int := l.mergeSort fun a b => decide (a ≤ b)
theorem sortI_perm (l : List Int) : (sortI l).Perm l := List.mergeSort_perm _ _
theorem sortI_up (l : List Int) : (sortI l).Pairwise (· ≤ ·) := by
  have h := List.pairwise_mergeSort (le := fun a b : Int => decide (a ≤ b)) (fun a b c h1 h2 => by simp at *; omega) (fun a b => by simp; omega) l
  exact h.imp fun h => by simpa using h
theorem sortI_eq {l m : List Int} (hp : m.Perm l) (hu : m.Pairwise (· ≤ ·)) : m = sortI l :=
  List.Perm.eq_of_pairwise (le := (· ≤ ·)) (fun a b _ _ h1 h2 => Int.le_antisymm h1 h2) hu (sortI_up l) (hp.trans (sortI_perm l).symm)
theorem eo_sortedI {ns : List Int} (hm : X.mg "sorted" = none) (ha : EB X cs a (.lst (ns.map D.int))) (hg : Gl X "sorted" := by rfl) (hs : Pl a := by intro _ _; rfl) : EO X cs (.Call (.Name "sorted" p) [a] [] pos) ((sortI ns).map D.int) := fun He Hb H0 H σ Q s q =>
  wE_of (pe_callB cr_sortedI hg hm (by decide +kernel) pa_w (by decide) (by decide) (hs _ _) rfl) (eab_cons ha eab_nil hs _ _ _ _ _ _ s fun vs H1 H01 g1 r1 => by
    cases r1 with
    | cons r1 r => cases r; cases r1 with
      | lst hl r =>
        have e := r.ints_of
        subst e
        refine ⟨_, ns, rfl, SqL.of hl, fun ns' l hp hu hn => ?_⟩
        have e := sortI_eq hp hu
        subst e
        exact q l _ _ _ (g1.trans (Grow.own g1.i hn)) (g1.h.free hn) (g1.i.free hn) upd_same RepA.ints)
def leP (a b : Int × Int) : Bool := decide (a.1 < b.1) || (decide (a.1 = b.1) && decide (a.2 ≤ b.2))
theorem leP_iff {a b : Int × Int} : leP a b = true ↔ a.1 < b.1 ∨ (a.1 = b.1 ∧ a.2 ≤ b.2) := by unfold leP; simp
def sortP (l : List (Int × Int)) : List (Int × Int) := l.mergeSort leP
theorem sortP_perm (l : List (Int × Int)) : (sortP l).Perm l := List.mergeSort_perm _ _
theorem sortP_up (l : List (Int × Int)) : (sortP l).Pairwise (fun a b => leP a b = true) :=
  List.pairwise_mergeSort (fun a b c h1 h2 => by rw [leP_iff] at *; omega) (fun a b => by rw [Bool.or_eq_true, leP_iff, leP_iff]; omega) l
theorem sortP_eq {l m : List (Int × Int)} (hp : m.Perm l) (hu : m.Pairwise (fun a b => leP a b = true)) : m = sortP l :=
  List.Perm.eq_of_pairwise (le := fun a b => leP a b = true) (fun a b _ _ h1 h2 => by
    rw [leP_iff] at h1 h2
    exact Prod.ext (by omega) (by omega)) hu (sortP_up l) (hp.trans (sortP_perm l).symm)
open Classical in
noncomputable def keyP (H : Hp) (x : V) : Int × Int := if h : ∃ q : Int × Int, ∃ t, x = .ref t ∧ H t = some (.tup [.int q.1, .int q.2]) then choose h else (0, 0)
theorem keyP_of {H : Hp} {t : Addr} {q : Int × Int} (h : H t = some (.tup [.int q.1, .int q.2])) : keyP H (.ref t) = q := by
  have e : ∃ q : Int × Int, ∃ u, V.ref t = .ref u ∧ H u = some (.tup [.int q.1, .int q.2]) := ⟨q, t, rfl, h⟩
  unfold keyP
  rw [dif_pos e]
  obtain ⟨u, h1, h2⟩ := Classical.choose_spec e
  cases h1
  rw [h] at h2
  injection h2 with h2
  injection h2 with h2
  simp only [List.cons.injEq, V.int.injEq, and_true] at h2
  exact (Prod.ext h2.1 h2.2).symm
theorem pairs_key {K : PySem.W.Frag} {H : Hp} : ∀ {vs : List V} {ps : List (Int × Int)}, RepA K H vs (ps.map dP) → vs.map (keyP H) = ps ∧ ∀ x ∈ vs, ∃ t, x = .ref t ∧ H t = some (.tup [.int (keyP H x).1, .int (keyP H x).2])
  | _, [], .nil => ⟨rfl, fun _ h => nomatch h⟩
  | _, q :: ps, .cons r t => by
    obtain ⟨h1, h2⟩ := pairs_key t
    obtain ⟨u, rfl, hu⟩ := r.tup2
    have e := keyP_of (q := q) hu
    refine ⟨by rw [List.map_cons, h1, e], fun x hx => ?_⟩
    rcases List.mem_cons.mp hx with rfl | hx
    · exact ⟨u, rfl, by rw [e]; exact hu⟩
    · exact h2 x hx
theorem pairs_rep {K : PySem.W.Frag} {H : Hp} {k : V → Int × Int} : ∀ {vs : List V}, (∀ x ∈ vs, ∃ t, x = .ref t ∧ H t = some (.tup [.int (k x).1, .int (k x).2])) → RepA K H vs ((vs.map k).map dP)
  | [], _ => .nil
  | x :: r, h => by
    obtain ⟨t, e, ht⟩ := h x (by simp)
    refine .cons ?_ (pairs_rep fun y hy => h y (by simp [hy]))
    rw [e] at ht ⊢
    exact .tup ht (.cons (.int _) (.cons (.int _) .nil))
theorem eo_sortedP {ps : List (Int × Int)} (hm : X.mg "sorted" = none) (ha : EX X cs a (.lst (ps.map dP))) (hg : Gl X "sorted" := by rfl) (hs : Pl a := by intro _ _; rfl) : EO X cs (.Call (.Name "sorted" p) [a] [] pos) ((sortP ps).map dP) := fun He Hb H0 H σ Q s q =>
  wE_of (pe_callB cr_sortedPO hg hm (by decide +kernel) pa_w (by decide) (by decide) (hs _ _) rfl) (ea_cons ha ea_nil hs _ _ _ _ _ _ s fun vs H1 H01 g1 r1 => by
    cases r1 with
    | cons r1 r => cases r; cases r1 with
      | lst hl r =>
        obtain ⟨h1, h2⟩ := pairs_key r
        refine ⟨_, _, keyP H01, rfl, SqL.of (g1.i _ _ hl), fun x hx => ?_, fun ys l hsd hst hn => ?_⟩
        · obtain ⟨t, e, ht⟩ := h2 x hx
          exact ⟨t, e, g1.i _ _ ht⟩
        · have e : ys.map (keyP H01) = sortP ps := sortP_eq (by rw [← h1]; exact hst.perm.map _) (by
            rw [List.pairwise_map]
            refine List.Pairwise.imp (fun {x y} h => ?_) hsd
            have z := SrtO.lexB_no.mp h
            rw [leP_iff]
            omega)
          refine q l _ _ _ (g1.trans (Grow.own g1.i hn)) (g1.h.free hn) (g1.i.free hn) upd_same ?_
          rw [← e]
          exact pairs_rep fun y hy => h2 y (hst.perm.mem_iff.mp hy))
/-- xs + ys -/
theorem eo_cat {ds es : List D} (ha : EX X cs a (.lst ds)) (hb : EX X cs b (.lst es)) (hl : ds.length + es.length ≤ 1000000) : EO X cs (.BinOp a .Add b pos) (ds ++ es) := fun He Hb H0 H σ Q s q =>
  wE_of (pe_op op_cat pe_w pe_w) (ha _ _ _ _ _ _ s fun x H1 H01 g1 r1 => hb _ _ _ _ _ _ (s.grow g1) fun y H2 H02 g2 r2 => by
    cases r1 with
    | lst h1 r1 =>
      cases r2 with
      | lst h2 r2 =>
        refine ⟨_, _, _, _, rfl, rfl, g2.h _ _ (g1.i _ _ h1), g2.i _ _ h2, ?_, fun l hn => ?_⟩
        · rw [r1.len, r2.len]; exact Nat.le_trans hl (by decide)
        · have g := g1.trans g2
          exact q l _ _ _ (g.trans (Grow.own g.i hn)) (g.h.free hn) (g.i.free hn) upd_same ((r1.mono g2.b).append r2))
end
end DL

end
section
set_option maxHeartbeats 2000000
namespace DL
open PySem PySem.Spec L2

/-! statements over data -/
structure DE where
  nx : List C → Prop
  rt : D → Prop
  bk : List C → Prop := fun _ => False
  ct : List C → Prop := fun _ => False
  ex : Addr → List C → Prop := fun _ _ => False
/-- an own error of a class of Pe goes out, at slots that Pe tells, all that was shared stands -/
def WC (K : PySem.W.Frag) (He Hb H0 : Hp) (Pe : Addr → List C → Prop) : WX := fun cls d σ H => ∃ (Cl : Addr) (cs : List C) (H0' : Hp), cls = .ref Cl ∧ d = none ∧ Same H0 H0' ∧ SR K He Hb H0' H σ cs ∧ Pe Cl cs
structure DEnd (X : Cx) (He Hb H0 : Hp) (F : DE) (E : Ends) : Prop where
  nx : ∀ (cs : List C) (H0' H' : Hp) (σ' : St), Same H0 H0' → SR X.K He Hb H0' H' σ' cs → F.nx cs → E.nx σ' H'
  rt : ∀ (v : V) (d : D) (H0' H' : Hp), Grow He Hb H0' H' → Rep X.K H0' v d → F.rt d → E.rt v H'
  bk : ∀ (cs : List C) (H0' H' : Hp) (σ' : St), Same H0 H0' → SR X.K He Hb H0' H' σ' cs → F.bk cs → E.bk σ' H'
  ct : ∀ (cs : List C) (H0' H' : Hp) (σ' : St), Same H0 H0' → SR X.K He Hb H0' H' σ' cs → F.ct cs → E.ct σ' H'
  ex : L2N.Takes X (WC X.K He Hb H0 F.ex)
theorem DEnd.mono {X : Cx} {He Hb H0 H1 : Hp} {F : DE} {E : Ends} (h : DEnd X He Hb H0 F E) (e : Same H0 H1) : DEnd X He Hb H1 F E :=
  ⟨fun cs a b c s => h.nx cs a b c (e.trans s), h.rt, fun cs a b c s => h.bk cs a b c (e.trans s), fun cs a b c s => h.ct cs a b c (e.trans s), h.ex.imp fun _ _ _ _ ⟨Cl, cs, H0', e1, e2, e3, z⟩ => ⟨Cl, cs, H0', e1, e2, e.trans e3, z⟩⟩
theorem takes_no {X : Cx} {K : PySem.W.Frag} {He Hb H0 : Hp} : L2N.Takes X (WC K He Hb H0 fun _ _ => False) := fun _ _ x => by
  obtain ⟨_, _, _, _, _, _, _, _, _, _, _, _, _, _, _, _, _, _, _, _, _, _, _, z⟩ := x
  exact z.elim
def SX (X : Cx) (cs : List C) (st : Stmt) (F : DE) : Prop := ∀ (He Hb H0 H : Hp) (σ : St) (E : Ends), SR X.K He Hb H0 H σ cs → DEnd X He Hb H0 F E → wS X st E σ H
def SXs (X : Cx) (cs : List C) (sts : List Stmt) (F : DE) : Prop := ∀ (He Hb H0 H : Hp) (σ : St) (E : Ends), SR X.K He Hb H0 H σ cs → DEnd X He Hb H0 F E → wSs X sts E σ H
section
variable {X : Cx} {cs : List C} {a b c e o : Expr} {es : List Expr} {st : Stmt} {sts : List Stmt} {pos p pos' : Pos} {d : D} {ds : List D} {F : DE}
theorem sxs_nil (h : F.nx cs) : SXs X cs [] F := fun He Hb H0 H σ E s k => wSs_of pss_nil (k.nx _ _ _ _ (Same.refl _) s h)
theorem sxs_cons (h : SX X cs st { F with nx := fun cs' => SXs X cs' sts F }) : SXs X cs (st :: sts) F := fun He Hb H0 H σ E s k =>
  wSs_of (pss_cons ps_w pss_w) (h _ _ _ _ _ _ s ⟨fun cs' H0' H' σ' e s' h' => h' _ _ _ _ _ _ s' (k.mono e), k.rt, k.bk, k.ct, k.ex⟩)
theorem sxs_one (h : SX X cs st F) : SXs X cs [st] F := fun He Hb H0 H σ E s k => wSs_of (pss_one ps_w) (h _ _ _ _ _ _ s k)
/-- ghost steps: one's own object becomes shared -/
theorem sx_frL (i : Nat) (hc : cs[i]? = some (.ol ds)) (h : SX X (cs.set i (.sh (.lst ds))) st F) : SX X cs st F := fun He Hb H0 H σ E s k => by
  obtain ⟨H0', e, s'⟩ := s.freezeL hc
  exact h _ _ _ _ _ _ s' (k.mono e)
theorem sx_frD (i : Nat) {kvs : List ((Int × Int) × D)} (hc : cs[i]? = some (.od kvs)) (h : SX X (cs.set i (.sh (.dic kvs))) st F) : SX X cs st F := fun He Hb H0 H σ E s k => by
  obtain ⟨H0', e, s'⟩ := s.freezeD hc
  exact h _ _ _ _ _ _ s' (k.mono e)
theorem sxs_frL (i : Nat) (hc : cs[i]? = some (.ol ds)) (h : SXs X (cs.set i (.sh (.lst ds))) sts F) : SXs X cs sts F := fun He Hb H0 H σ E s k => by
  obtain ⟨H0', e, s'⟩ := s.freezeL hc
  exact h _ _ _ _ _ _ s' (k.mono e)
theorem sxs_frD (i : Nat) {kvs : List ((Int × Int) × D)} (hc : cs[i]? = some (.od kvs)) (h : SXs X (cs.set i (.sh (.dic kvs))) sts F) : SXs X cs sts F := fun He Hb H0 H σ E s k => by
  obtain ⟨H0', e, s'⟩ := s.freezeD hc
  exact h _ _ _ _ _ _ s' (k.mono e)
theorem sx_pass (h : F.nx cs) : SX X cs (.Pass pos) F := fun He Hb H0 H σ E s k => wS_of ps_pass (k.nx _ _ _ _ (Same.refl _) s h)
theorem sx_break (h : F.bk cs) : SX X cs (.Break pos) F := fun He Hb H0 H σ E s k => wS_of ps_break (k.bk _ _ _ _ (Same.refl _) s h)
theorem sx_continue (h : F.ct cs) : SX X cs (.Continue pos) F := fun He Hb H0 H σ E s k => wS_of ps_continue (k.ct _ _ _ _ (Same.refl _) s h)
theorem sx_expr (h : EX X cs e d) (k : F.nx cs) (hs : swapsWith e none pos.line X.env = pure false := by rfl) : SX X cs (.Expr e pos) F := fun He Hb H0 H σ E s q =>
  wS_of (ps_expr pe_w hs) (h _ _ _ _ _ _ s fun v H1 H01 g r => q.nx _ _ _ _ g.b (s.grow g) k)
theorem sx_ret (h : EX X cs e d) (k : F.rt d) : SX X cs (.Return (some e) pos) F := fun He Hb H0 H σ E s q =>
  wS_of (ps_ret pe_w) (h _ _ _ _ _ _ s fun v H1 H01 g r => q.rt _ _ _ _ (s.gr.trans g) r k)
theorem sx_retN (k : F.rt .non) : SX X cs (.Return none pos) F := fun He Hb H0 H σ E s q => wS_of ps_retN (q.rt _ _ _ _ s.gr .non k)
theorem sx_if {A B : List Stmt} {k : Bool} (h : TX X cs c k) (h1 : k = true → SXs X cs A F) (h2 : k = false → SXs X cs B F) : SX X cs (.If c A B pos) F := fun He Hb H0 H σ E s q =>
  wS_of (ps_if pt_w pss_w pss_w) (h _ _ _ _ _ _ s fun H1 H01 g => by
    cases k with
    | true => rw [if_pos rfl]; exact h1 rfl _ _ _ _ _ _ (s.grow g) (q.mono g.b)
    | false => rw [if_neg Bool.false_ne_true]; exact h2 rfl _ _ _ _ _ _ (s.grow g) (q.mono g.b))
section
variable {i : Nat} {x : Str}
theorem sx_set (i : Nat) (hN : X.N.Nodup) (h : EX X cs e d) (k : F.nx (cs.set i (.sh d))) (hi : X.N[i]? = some x := by rfl) (hx : Loc X.env.scope x := by first | exact Or.inl rfl | exact Or.inr rfl) (hs : swapsWith e (some (.Name x pos')) pos.line X.env = pure false := by rfl)
    (hf : X.fn x = true ∨ X.env.scope.names.lookup x = some .local := by first | exact .inl rfl | exact .inr rfl) : SX X cs (.Assign [.Name x pos'] e pos) F := fun He Hb H0 H σ E s q =>
  wS_of (ps_set hN hi hx pe_w hs hf) (h _ _ _ _ _ _ s fun v H1 H01 g r => q.nx _ _ _ _ g.b ((s.grow g).set r) k)
theorem own_new {K : PySem.W.Frag} {He Hb H0 H H0' H' : Hp} {σ : St} (s : SR K He Hb H0 H σ cs) (g : Grow H0 H H0' H') {l : Addr} (hl : H l = none) {c0 : C} (ok : SlotOk K H0' H' (some (some (.ref l))) c0) : SR K He Hb H0' H' (σ.set i (some (.ref l))) (cs.set i c0) := by
  refine (s.grow g).setOwn (s.gr.h.free hl) ok fun j c _ e o z => ?_
  have q := s.sl j c e
  cases c with
  | any => cases o
  | sh d => cases o
  | ol ds =>
    obtain ⟨l', vs, e1, _, e3, _⟩ := q
    rw [e1] at z
    cases z
    rw [hl] at e3
    cases e3
  | od ds =>
    obtain ⟨l', vs, e1, _, e3, _⟩ := q
    rw [e1] at z
    cases z
    rw [hl] at e3
    cases e3
theorem sx_setO (i : Nat) (hN : X.N.Nodup) (h : EO X cs e ds) (k : F.nx (cs.set i (.ol ds))) (hi : X.N[i]? = some x := by rfl) (hx : Loc X.env.scope x := by first | exact Or.inl rfl | exact Or.inr rfl) (hs : swapsWith e (some (.Name x pos')) pos.line X.env = pure false := by rfl)
    (hf : X.fn x = true ∨ X.env.scope.names.lookup x = some .local := by first | exact .inl rfl | exact .inr rfl) : SX X cs (.Assign [.Name x pos'] e pos) F := fun He Hb H0 H σ E s q =>
  wS_of (ps_set hN hi hx pe_w hs hf) (h _ _ _ _ _ _ s fun l vs H1 H01 g hl h0 h1 r => q.nx _ _ _ _ g.b (own_new (c0 := .ol ds) s g hl ⟨l, vs, rfl, h0, h1, r⟩) k)
theorem sx_setD (i : Nat) {kvs : List ((Int × Int) × D)} (hN : X.N.Nodup) (h : ED X cs e kvs) (k : F.nx (cs.set i (.od kvs))) (hi : X.N[i]? = some x := by rfl) (hx : Loc X.env.scope x := by first | exact Or.inl rfl | exact Or.inr rfl) (hs : swapsWith e (some (.Name x pos')) pos.line X.env = pure false := by rfl)
    (hf : X.fn x = true ∨ X.env.scope.names.lookup x = some .local := by first | exact .inl rfl | exact .inr rfl) : SX X cs (.Assign [.Name x pos'] e pos) F := fun He Hb H0 H σ E s q =>
  wS_of (ps_set hN hi hx pe_w hs hf) (h _ _ _ _ _ _ s fun l vs H1 H01 g hl h0 h1 r => q.nx _ _ _ _ g.b (own_new (c0 := .od kvs) s g hl ⟨l, vs, rfl, h0, h1, r⟩) k)
/-- a, b = e -/
theorem sx_unp2 (i j : Nat) {x y : Str} {px py pt : Pos} {k0 : Nat} {d1 d2 : D} (hcl : X.calm = true) (hN : X.N.Nodup) (h : EX X cs e (.tup [d1, d2])) (k : F.nx ((cs.set i (.sh d1)).set j (.sh d2))) (hi : X.N[i]? = some x := by rfl) (hj : X.N[j]? = some y := by rfl)
    (hx : Loc X.env.scope x := by first | exact Or.inl rfl | exact Or.inr rfl) (hy : Loc X.env.scope y := by first | exact Or.inl rfl | exact Or.inr rfl)
    (hf : X.fn x = true ∨ X.env.scope.names.lookup x = some .local := by first | exact .inl rfl | exact .inr rfl) (hf2 : X.fn y = true ∨ X.env.scope.names.lookup y = some .local := by first | exact .inl rfl | exact .inr rfl)
    (hp : ∀ te t, PE X e te → PGs X [.Name x px, .Name y py] t → PS X (.Assign [.Tuple [.Name x px, .Name y py] k0 pt] e pos) (tAsg te (gTup X.K 2 t)) := by intro _ _ h1 h2; exact ps_asg h1 (pg_tup rfl h2)) :
    SX X cs (.Assign [.Tuple [.Name x px, .Name y py] k0 pt] e pos) F := fun He Hb H0 H σ E s q =>
  wS_of (hp _ _ pe_w (pgs_cons (pg_name hN hi hx hf) (pgs_cons (pg_name hN hj hy hf2) pgs_nil))) (h _ _ _ _ _ _ s fun v H1 H01 g r => by
    cases r with
    | tup hl r =>
      cases r with
      | cons r1 r =>
        cases r with
        | cons r2 r =>
          cases r
          refine ⟨_, _, rfl, SqT.of (g.i _ _ hl), rfl, _, _, rfl, ?_⟩
          refine ⟨_, _, rfl, ?_⟩
          exact ⟨rfl, q.nx _ _ _ _ g.b (((s.grow g).set r1).set r2) k⟩)
end

/-! one's own lists and dicts change -/
section
variable {x : Str} {apos : Pos}
theorem sx_append (i : Nat) (hc : cs[i]? = some (.ol ds)) (h : EX X cs e d) (hl : ds.length < 1000000)
    (hp : ∀ te, PE X e te → PS X (.Expr (.Call (.Attribute (.Name x p) "append" apos) [e] [] pos) pos') (tDrop (tBM X.K "list" rAppend (tVar i) (tCons te tNil)))) (k : F.nx (cs.set i (.ol (ds ++ [d])))) :
    SX X cs (.Expr (.Call (.Attribute (.Name x p) "append" apos) [e] [] pos) pos') F := fun He Hb H0 H σ E s q => by
  obtain ⟨l, vs, e1, h0, hl1, r⟩ := s.sl i _ hc
  refine wS_of (hp _ pe_w) ⟨_, e1, .inl ⟨rfl, _, SqL.of hl1⟩, ?_⟩
  refine h _ _ _ _ _ _ s fun v H1 H01 g rv => ?_
  have s1 := s.grow g
  have h01 := not_tup g h0 hl1 (fun xs z => by cases z)
  refine ⟨l, vs, v, rfl, rfl, g.h _ _ hl1, by rw [r.len]; exact Nat.lt_of_lt_of_le hl (by decide), ?_⟩
  exact q.nx _ _ _ _ g.b (s1.put (c0 := .ol (ds ++ [d])) hc rfl e1 h01 ⟨l, _, rfl, h01, upd_same, (r.mono g.b).snoc rv⟩) k
theorem sx_insert (i : Nat) {b : Expr} {n : Int} (hc : cs[i]? = some (.ol ds)) (hb : EB X cs b (.int n)) (h : EX X cs e d) (hn : 0 ≤ n ∧ n < 1000000) (hl : ds.length < 1000000)
    (hp : ∀ te tb, PE X b tb → PE X e te → PS X (.Expr (.Call (.Attribute (.Name x p) "insert" apos) [b, e] [] pos) pos') (tDrop (tBM X.K "list" (fun x vs H Q => ∃ (l : Addr) (xs : List V) (i : Int) (y : V), x = .ref l ∧ vs = [.int i, y] ∧ H l = some (.lst xs) ∧ xs.length < sizeLine ∧ 0 ≤ i ∧ i < 2 ^ 63 ∧
      Q .non (upd H l (.lst (xs.take i.toNat ++ [y] ++ xs.drop i.toNat)))) (tVar i) (tCons tb (tCons te tNil))))) (k : F.nx (cs.set i (.ol (ds.take n.toNat ++ [d] ++ ds.drop n.toNat)))) :
    SX X cs (.Expr (.Call (.Attribute (.Name x p) "insert" apos) [b, e] [] pos) pos') F := fun He Hb H0 H σ E s q => by
  obtain ⟨l, vs, e1, h0, hl1, r⟩ := s.sl i _ hc
  refine wS_of (hp _ _ pe_w pe_w) ⟨_, e1, .inl ⟨rfl, _, SqL.of hl1⟩, ?_⟩
  refine hb _ _ _ _ _ _ s fun w H1 H01 g1 rw1 => ?_
  cases rw1
  refine h _ _ _ _ _ _ (s.grow g1) fun v H2 H02 g2 rv => ?_
  have g := g1.trans g2
  have s1 := s.grow g
  have h01 := not_tup g h0 hl1 (fun xs z => by cases z)
  refine ⟨l, vs, n, v, rfl, rfl, g.h _ _ hl1, by rw [r.len]; exact Nat.lt_of_lt_of_le hl (by decide), hn.1, Int.lt_trans hn.2 (by decide), ?_⟩
  exact q.nx _ _ _ _ g.b (s1.put (c0 := .ol (ds.take n.toNat ++ [d] ++ ds.drop n.toNat)) hc rfl e1 h01 ⟨l, _, rfl, h01, upd_same, (((r.mono g.b).take _).append (.cons rv .nil)).append ((r.mono g.b).drop _)⟩) k
theorem sx_clear (i : Nat) (hc : cs[i]? = some (.ol ds))
    (hp : PS X (.Expr (.Call (.Attribute (.Name x p) "clear" apos) [] [] pos) pos') (tDrop (tBM0 X.K "list" rClear (tVar i)))) (k : F.nx (cs.set i (.ol []))) :
    SX X cs (.Expr (.Call (.Attribute (.Name x p) "clear" apos) [] [] pos) pos') F := fun He Hb H0 H σ E s q => by
  obtain ⟨l, vs, e1, h0, hl1, r⟩ := s.sl i _ hc
  refine wS_of hp ⟨_, e1, .inl ⟨rfl, _, SqL.of hl1⟩, l, vs, rfl, rfl, hl1, ?_⟩
  exact q.nx _ _ _ _ (Same.refl _) (s.put (c0 := .ol []) hc rfl e1 h0 ⟨l, _, rfl, h0, upd_same, .nil⟩) k
/-- d[(a, b)] = e -/
theorem sx_put (i : Nat) {b : Expr} {kvs : List ((Int × Int) × D)} {m : Nat} {z1 z2 : Int} {x : Str} {px : Pos} (hr : Room m X.A) (hc : cs[i]? = some (.od kvs)) (h : EX X cs e d) (hb : EX X cs b (.tup [.int z1, .int z2])) (hl : kvs.length < 1000000) (k : F.nx (cs.set i (.od (put kvs (z1, z2) d))))
    (hs : swapsWith e (some (.Subscript (.Name x px) b pos')) pos.line X.env = pure false := by rfl) (hN : X.N[i]? = some x := by rfl) (hv : Vis X.env.scope x := by first | exact Or.inl rfl | exact Or.inr (Or.inl rfl) | exact Or.inr (Or.inr rfl)) (hd : (x == ("__debug__" : Str)) = false := by decide)
    (hcd : (x == ("__classdict__" : Str)) = false := by decide) :
    SX X cs (.Assign [.Subscript (.Name x px) b pos'] e pos) F := fun He Hb H0 H σ E s q => by
  obtain ⟨l, vs, e1, h0, hl1, r⟩ := s.sl i _ hc
  refine wS_of (ps_dput (hu_of hr) (pe_var hN hv hd hcd) pe_w pe_w hs) ?_
  refine h _ _ _ _ _ _ s fun v H1 H01 g1 rv => ⟨_, e1, ?_⟩
  refine hb _ _ _ _ _ _ (s.grow g1) fun y H2 H02 g2 ry => ?_
  obtain ⟨t, rfl, ht⟩ := ry.tup2
  have g := g1.trans g2
  have h01 := not_tup g h0 hl1 (fun xs z => by cases z)
  refine ⟨l, _, rfl, DPut.t (g.h _ _ hl1) (g.i _ _ ht) (by rw [r.len]; exact Nat.lt_of_lt_of_le hl (by decide)), ?_⟩
  exact q.nx _ _ _ _ g.b ((s.grow g).put (c0 := .od (put kvs (z1, z2) d)) hc rfl e1 h01 ⟨l, _, rfl, h01, upd_same, (r.mono g.b).put (rv.mono g2.b)⟩) k
end

/-! loops -/
section
variable {i : Nat} {x : Str} {it : Expr} {body : List Stmt} {px : Pos}
theorem sx_forL (i : Nat) (P : Nat → List C → Prop) (hcl : X.calm = true) (hN : X.N.Nodup) (hp : PassesOwn (model X.prog X.w) X.A X.env X.xe) (hit : EX X cs it (.lst ds)) (h0 : P 0 cs)
    (hs : ∀ j d cs', ds[j]? = some d → P j cs' → SXs X (cs'.set i (.sh d)) body { F with nx := P (j + 1), ct := P (j + 1), bk := F.nx }) (hd : ∀ cs', P ds.length cs' → F.nx cs')
    (hi : X.N[i]? = some x := by rfl) (hx : Loc X.env.scope x := by first | exact Or.inl rfl | exact Or.inr rfl) (hf : X.fn x = true ∨ X.env.scope.names.lookup x = some .local := by first | exact .inl rfl | exact .inr rfl) (hfo : ∀ x, foldedSetIterable it X.env x = pure x := by intro _; rfl) :
    SX X cs (.For (.Name x px) it body [] pos) F := fun He Hb H0 H σ E s q =>
  wS_of (ps_for hp hcl (pi_list pe_w) (pg_name hN hi hx hf) pss_w hfo) (hit _ _ _ _ _ _ s fun v H1 H01 g r => by
    cases r with
    | @lst a vs _ hl r =>
      refine ⟨a, rfl, ⟨vs, SqL.of (g.i _ _ hl)⟩, for_list (K := X.K) (a := a) (xs := vs) (fun j σ' H' => ∃ H0' cs', Same H01 H0' ∧ SR X.K He Hb H0' H' σ' cs' ∧ P j cs') ⟨H01, cs, Same.refl _, s.grow g, h0⟩
        (fun j σ' H' _ ⟨H0', cs', e, s', _⟩ => SqL.of (s'.i _ _ (e _ _ hl))) (fun j y σ' H' hj ⟨H0', cs', e, s', hP⟩ => ?_) (fun σ' H' ⟨H0', cs', e, s', hP⟩ => ?_)⟩
      · obtain ⟨d, hd', rd⟩ := r.get hj
        refine hs j d cs' hd' hP _ _ _ _ _ _ (s'.set (rd.mono e)) ⟨fun cs2 H2 H3 σ3 e2 s2 h2 => ⟨H2, cs2, e.trans e2, s2, h2⟩, q.rt, fun cs2 H2 H3 σ3 e2 s2 h2 => q.nx _ _ _ _ ((g.b.trans e).trans e2) s2 h2, fun cs2 H2 H3 σ3 e2 s2 h2 => ⟨H2, cs2, e.trans e2, s2, h2⟩, (q.mono (g.b.trans e)).ex⟩
      · rw [r.len] at hP
        exact q.nx _ _ _ _ (g.b.trans e) s' (hd cs' hP))
theorem sx_forR (i : Nat) {m : Int} (P : Nat → List C → Prop) (hcl : X.calm = true) (hN : X.N.Nodup) (hp : PassesOwn (model X.prog X.w) X.A X.env X.xe) (hm : X.mg "range" = none) (ha : EB X cs a (.int m)) (hb : -1000000 ≤ m ∧ m ≤ 1000000) (h0 : P 0 cs)
    (hs : ∀ (j : Nat) cs', j < m.toNat → P j cs' → SXs X (cs'.set i (.sh (.int j))) body { F with nx := P (j + 1), ct := P (j + 1), bk := F.nx }) (hd : ∀ cs', P m.toNat cs' → F.nx cs')
    (hg : Gl X "range" := by rfl) (hpl : Pl a := by intro _ _; rfl) (hi : X.N[i]? = some x := by rfl) (hx : Loc X.env.scope x := by first | exact Or.inl rfl | exact Or.inr rfl) (hf : X.fn x = true ∨ X.env.scope.names.lookup x = some .local := by first | exact .inl rfl | exact .inr rfl)
    (hfo : ∀ x, foldedSetIterable (.Call (.Name "range" p) [a] [] pos') X.env x = pure x := by intro _; rfl) : SX X cs (.For (.Name x px) (.Call (.Name "range" p) [a] [] pos') body [] pos) F := fun He Hb H0 H σ E s q =>
  wS_of (ps_for hp hcl (pi_range1 hg hm pa_w (hpl _ _)) (pg_name hN hi hx hf) pss_w hfo) (eab_cons ha eab_nil hpl _ _ _ _ _ _ s fun vs H1 H01 g r => by
    cases r with
    | cons r1 r =>
      cases r
      cases r1
      refine ⟨m, rfl, by omega, by omega, for_range (lo := 0) (n := m.toNat) (fun j σ' H' => ∃ H0' cs', Same H01 H0' ∧ SR X.K He Hb H0' H' σ' cs' ∧ P j cs') ⟨H01, cs, Same.refl _, s.grow g, h0⟩
        (fun j σ' H' hj ⟨H0', cs', e, s', hP⟩ => ?_) (fun σ' H' ⟨H0', cs', e, s', hP⟩ => q.nx _ _ _ _ (g.b.trans e) s' (hd cs' hP))⟩
      refine hs j cs' hj hP _ _ _ _ _ _ (s'.set (by rw [Int.zero_add]; exact .int _)) ⟨fun cs2 H2 H3 σ3 e2 s2 h2 => ⟨H2, cs2, e.trans e2, s2, h2⟩, q.rt, fun cs2 H2 H3 σ3 e2 s2 h2 => q.nx _ _ _ _ ((g.b.trans e).trans e2) s2 h2, fun cs2 H2 H3 σ3 e2 s2 h2 => ⟨H2, cs2, e.trans e2, s2, h2⟩, (q.mono (g.b.trans e)).ex⟩)
theorem sx_forR2 (i : Nat) {l m : Int} (P : Nat → List C → Prop) (hcl : X.calm = true) (hN : X.N.Nodup) (hp : PassesOwn (model X.prog X.w) X.A X.env X.xe) (hm : X.mg "range" = none) (ha : EB X cs a (.int l)) (hb : EB X cs b (.int m)) (hbd : -1000000 ≤ l ∧ l ≤ 1000000 ∧ -1000000 ≤ m ∧ m ≤ 1000000) (h0 : P 0 cs)
    (hs : ∀ (j : Nat) cs', j < (m - l).toNat → P j cs' → SXs X (cs'.set i (.sh (.int (l + j)))) body { F with nx := P (j + 1), ct := P (j + 1), bk := F.nx }) (hd : ∀ cs', P (m - l).toNat cs' → F.nx cs')
    (hg : Gl X "range" := by rfl) (hpl : Pl a := by intro _ _; rfl) (hpl2 : Pl b := by intro _ _; rfl) (hi : X.N[i]? = some x := by rfl) (hx : Loc X.env.scope x := by first | exact Or.inl rfl | exact Or.inr rfl) (hf : X.fn x = true ∨ X.env.scope.names.lookup x = some .local := by first | exact .inl rfl | exact .inr rfl)
    (hst : starEach [a, b] X.env = [(false, eval a X.env), (false, eval b X.env)] := by rfl)
    (hfo : ∀ x, foldedSetIterable (.Call (.Name "range" p) [a, b] [] pos') X.env x = pure x := by intro _; rfl) : SX X cs (.For (.Name x px) (.Call (.Name "range" p) [a, b] [] pos') body [] pos) F := fun He Hb H0 H σ E s q =>
  wS_of (ps_for hp hcl (pi_range2 hg hm pa_w hst (hpl2 _ _)) (pg_name hN hi hx hf) pss_w hfo) (eab_cons ha (eab_cons hb eab_nil hpl2) hpl _ _ _ _ _ _ s fun vs H1 H01 g r => by
    cases r with
    | cons r1 r =>
      cases r with
      | cons r2 r =>
        cases r
        cases r1
        cases r2
        refine ⟨l, m, rfl, by omega, for_range (lo := l) (n := (m - l).toNat) (fun j σ' H' => ∃ H0' cs', Same H01 H0' ∧ SR X.K He Hb H0' H' σ' cs' ∧ P j cs') ⟨H01, cs, Same.refl _, s.grow g, h0⟩
          (fun j σ' H' hj ⟨H0', cs', e, s', hP⟩ => ?_) (fun σ' H' ⟨H0', cs', e, s', hP⟩ => q.nx _ _ _ _ (g.b.trans e) s' (hd cs' hP))⟩
        refine hs j cs' hj hP _ _ _ _ _ _ (s'.set (.int _)) ⟨fun cs2 H2 H3 σ3 e2 s2 h2 => ⟨H2, cs2, e.trans e2, s2, h2⟩, q.rt, fun cs2 H2 H3 σ3 e2 s2 h2 => q.nx _ _ _ _ ((g.b.trans e).trans e2) s2 h2, fun cs2 H2 H3 σ3 e2 s2 h2 => ⟨H2, cs2, e.trans e2, s2, h2⟩, (q.mono (g.b.trans e)).ex⟩)
/-- while: P by a measure -/
theorem sx_while (P : Nat → List C → Prop) (hp : PassesOwn (model X.prog X.w) X.A X.env X.xe) (n0 : Nat) (h0 : P n0 cs)
    (hs : ∀ n cs', P n cs' → ∃ k, TX X cs' c k ∧ (k = true → SXs X cs' body { F with nx := fun cs2 => ∃ m, m < n ∧ P m cs2, ct := fun cs2 => ∃ m, m < n ∧ P m cs2, bk := F.nx }) ∧ (k = false → F.nx cs')) : SX X cs (.While c body [] pos) F := fun He Hb H0 H σ E s q =>
  wS_of (ps_while hp pt_w pss_w) ⟨fun n σ' H' => ∃ H0' cs', Same H0 H0' ∧ SR X.K He Hb H0' H' σ' cs' ∧ P n cs', ⟨n0, H0, cs, Same.refl _, s, h0⟩, fun n σ' H' ⟨H0', cs', e, s', hP⟩ => by
    obtain ⟨k, ht, h1, h2⟩ := hs n cs' hP
    refine ht _ _ _ _ _ _ s' fun H2 H02 g => ?_
    cases k with
    | true =>
      rw [if_pos rfl]
      refine ⟨fun σ3 H3 => ∃ m, m < n ∧ ∃ H0' cs', Same H0 H0' ∧ SR X.K He Hb H0' H3 σ3 cs' ∧ P m cs', fun σ3 H3 z => z, ?_⟩
      exact h1 rfl _ _ _ _ _ _ (s'.grow g) ⟨fun cs2 H2 H3 σ3 e2 s2 ⟨m, hm, h2⟩ => ⟨m, hm, H2, cs2, (e.trans g.b).trans e2, s2, h2⟩, q.rt, fun cs2 H2 H3 σ3 e2 s2 h2 => q.nx _ _ _ _ ((e.trans g.b).trans e2) s2 h2, fun cs2 H2 H3 σ3 e2 s2 ⟨m, hm, h2⟩ => ⟨m, hm, H2, cs2, (e.trans g.b).trans e2, s2, h2⟩, (q.mono (e.trans g.b)).ex⟩
    | false =>
      rw [if_neg Bool.false_ne_true]
      exact q.nx _ _ _ _ (e.trans g.b) (s'.grow g) (h2 rfl)⟩
end
theorem tx_truL (ha : EB X cs a (.lst ds)) (he : ∀ whole, isTrue a X.env whole = (do let v ← whole; standAt a.pos; holding [v] (truthy v)) := by intro _; rfl) : TX X cs a (!ds.isEmpty) := fun He Hb H0 H σ Q s q =>
  wT_of (pt_truth pe_w he) (ha _ _ _ _ _ _ s fun v H1 H01 g r => by
    cases r with
    | lst hl r =>
      cases r with
      | nil => exact ⟨false, .inl ⟨_, SqL.of hl, rfl⟩, q _ _ g⟩
      | cons _ _ => exact ⟨true, .inl ⟨_, SqL.of hl, rfl⟩, q _ _ g⟩)
end

/-! a def keeps its promise over data -/
/-- the slots at the entry -/
def ent (n : Nat) (ds : List D) : List C := ds.map C.sh ++ List.replicate (n - ds.length) .any
theorem sr_start {K : PySem.W.Frag} {H0 H : Hp} {N : List Str} {vs : List V} {ds : List D} (i : Same H0 H) (r : RepA K H0 vs ds) (hl : ds.length ≤ N.length) : SR K H0 H H0 H (start N vs) (ent N.length ds) := by
  have hlen := r.len
  have noown : ∀ (j : Nat) (c : C), (ent N.length ds)[j]? = some c → c.own = true → False := fun j c e o => by
    unfold ent at e
    have m := List.mem_of_getElem? e
    rcases List.mem_append.mp m with m | m
    · obtain ⟨d, _, e⟩ := List.mem_map.mp m
      rw [← e] at o
      cases o
    · rw [(List.mem_replicate.mp m).2] at o
      cases o
  refine ⟨Grow.refl i, ?_, fun j c e => ?_, fun j c l e o _ => (noown j c e o).elim, fun j k c c' l _ e _ o _ _ _ => (noown j c e o).elim⟩
  · unfold L2.start ent
    simp [hlen]
  · unfold ent at e
    by_cases h : j < ds.length
    · rw [List.getElem?_append_left (by simpa using h), List.getElem?_map] at e
      cases hd : ds[j]? with
      | none => rw [hd] at e; cases e
      | some d =>
        rw [hd] at e
        cases e
        obtain ⟨v, h1, h2⟩ := r.getD hd
        refine ⟨v, ?_, h2⟩
        unfold L2.start
        rw [List.getElem?_append_left (by simpa [hlen] using h), List.getElem?_map, h1]
        rfl
    · rw [List.getElem?_append_right (by simpa using h)] at e
      rw [(List.mem_replicate.mp (List.mem_of_getElem? e)).2]
      exact True.intro
section
variable {P : Program} {w : World} {K : PySem.W.Frag} {mg : Str → Option Value} {base : Heap}
/-- a def that lets nothing out -/
theorem fn_okD {x qual : Str} {st : Stmt} {f : Addr} {fd : FuncData} {N ps : List Str} {k : Nat} {R : List D → (Out → Prop) → Prop} (F : Fun K x qual st f fd) (S : FnScope N ps (defScope st)) (hl : ∀ ds post, R ds post → ds.length = ps.length) (hps : ps.length ≤ N.length)
    (hb : ∀ (X : Cx) ds post, (∃ cdv A outer s H E, X = (cxOf CX0 P w K mg base N qual (defScope st) f cdv A outer s H E).nox) → Room k X.A → R ds post → SXs X (ent N.length ds) (defBody st) { nx := fun _ => post (.ret .non), rt := fun d => post (.ret d) }) : FnOk P w K mg base CX0 (k + 1) f fd ps (spD K R) := by
  refine F.ok S (fun vs H Q E h => ?_) (fun cdv A outer s H vs Q E hr h => ?_)
  · obtain ⟨H0, ds, post, _, r, h, _⟩ := h
    rw [r.len]
    exact hl ds post h
  · obtain ⟨H0, ds, post, i, r, h, k1, k2⟩ := h
    refine ⟨_, pss_w, hb _ ds post ⟨_, _, _, _, _, _, rfl⟩ hr h _ _ _ _ _ _ (sr_start i r (by rw [hl ds post h]; exact hps)) ⟨fun cs H0' H' σ' e s' z => k1 .non .non H' H0' z s'.gr .non, fun v d H0' H' g r z => k1 d v H' H0' z g r, fun _ _ _ _ _ _ z => z.elim, fun _ _ _ _ _ _ z => z.elim, takes_no⟩⟩
/-- a def that may raise -/
theorem okXN {x qual : Str} {st : Stmt} {f : Addr} {fd : FuncData} {N ps : List Str} {k : Nat} {sp : Sp} (F : Fun K x qual st f fd) (S : FnScope N ps (defScope st)) (len : ∀ vs H Q E, sp vs H Q E → vs.length = ps.length)
    (hb : ∀ (cdv : Value) (A : Around) (outer : List Env) (s : Shared) (H : Hp) (vs : List V) (Q : VK) (E : XK), Room k (A.deeper (PyProof.Rows.envOfC qual (defScope st) s.heap.objs.size f cdv)) → sp vs H Q E →
      ∃ t, PSs (cxOf (L2N.CX P w) P w K mg base N qual (defScope st) f cdv A outer s H E) (defBody st) t ∧ t { nx := fun _ H' => Q .non H', rt := Q } (start N vs) H) : FnOk P w K mg base (L2N.CX P w) (k + 1) f fd ps sp := by
  obtain ⟨oc, od, kV, doc, pm, an, cdv, ct, osl, rfl, lk, hcd⟩ := F.ex
  exact fn_of lk hcd S len fun A outer s H vs Q E hr hsp => hb cdv A outer s H vs Q E hr hsp
theorem fn_okX {x qual : Str} {st : Stmt} {f : Addr} {fd : FuncData} {N ps : List Str} {k : Nat} {R : List D → (Out → Prop) → Prop} (F : Fun K x qual st f fd) (S : FnScope N ps (defScope st)) (hl : ∀ ds post, R ds post → ds.length = ps.length) (hps : ps.length ≤ N.length)
    (hb : ∀ (X : Cx) ds post, (∃ cdv A outer s H E, X = cxOf (L2N.CX P w) P w K mg base N qual (defScope st) f cdv A outer s H E) → Room k X.A → R ds post → SXs X (ent N.length ds) (defBody st) { nx := fun _ => post (.ret .non), rt := fun d => post (.ret d), ex := fun Cl _ => post (.exc Cl) }) : FnOk P w K mg base (L2N.CX P w) (k + 1) f fd ps (spD K R) := by
  refine okXN F S (fun vs H Q E h => ?_) (fun cdv A outer s H vs Q E hr h => ?_)
  · obtain ⟨H0, ds, post, _, r, h, _⟩ := h
    rw [r.len]
    exact hl ds post h
  · obtain ⟨H0, ds, post, i, r, h, k1, k2⟩ := h
    refine ⟨_, pss_w, hb _ ds post ⟨_, _, _, _, _, _, rfl⟩ hr h _ _ _ _ _ _ (sr_start i r (by rw [hl ds post h]; exact hps)) ⟨fun cs H0' H' σ' e s' z => k1 .non .non H' H0' z s'.gr .non, fun v d H0' H' g r z => k1 d v H' H0' z g r, fun _ _ _ _ _ _ z => z.elim, fun _ _ _ _ _ _ z => z.elim, ?_⟩⟩
    exact (L2N.takes_of (E := E) rfl rfl rfl rfl).imp fun c d' σ H' hw => by
      obtain ⟨Cl, cs, H0', rfl, rfl, h3, h4, h5⟩ := hw
      exact k2 Cl H' h5 h4.gr.h
end
end DL

end
section
set_option maxHeartbeats 2000000
namespace DL
open PySem PySem.Spec L2

/-! comprehensions. The block runs in contexts of its own: what is said of all of them -/
abbrev Bk (X : Cx) (sc : Scope) (s : Shared) (H : Hp) (Cl : Addr) (cl : List (Str × Addr)) (fp : List Addr) : Cx := X.blk s H sc (compEnvC sc cl Cl X.env) fp
def BX (X : Cx) (sc : Scope) (Pr : Cx → Prop) : Prop := ∀ (s : Shared) (H : Hp) (Cl : Addr) (cl : List (Str × Addr)) (fp : List Addr), Pr (Bk X sc s H Cl cl fp)
def uE (X : Cx) (sc : Scope) (e : Expr) : TE := fun σ H Q => BX X sc fun Y => wE Y e σ H Q
def uT (X : Cx) (sc : Scope) (e : Expr) : TT := fun σ H Q => BX X sc fun Y => wT Y e σ H Q
theorem SR.none {K : PySem.W.Frag} {He Hb H0 H : Hp} {σ : St} {cs : List C} (s : SR K He Hb H0 H σ cs) (i : Nat) : SR K He Hb H0 H (σ.set i none) (cs.set i .any) := by
  refine ⟨s.gr, by rw [List.length_set, List.length_set, s.len], fun j c e => ?_, fun j c l e o q => ?_, fun j k c c' l ne e e' o o' q q' => ?_⟩
  · by_cases h : i = j
    · subst h
      have hi : i < cs.length := by
        have := (List.getElem?_eq_some_iff.mp e).1
        simpa using this
      rw [List.getElem?_set_self hi] at e
      cases e
      exact True.intro
    · rw [List.getElem?_set_ne h] at e ⊢
      exact s.sl j c e
  · have h : i ≠ j := by
      rintro rfl
      have hi : i < cs.length := by
        have := (List.getElem?_eq_some_iff.mp e).1
        simpa using this
      rw [List.getElem?_set_self hi] at e
      cases e
      cases o
    rw [List.getElem?_set_ne h] at e q
    exact s.own j c l e o q
  · have g : ∀ (j : Nat) (c : C), (cs.set i .any)[j]? = some c → c.own = true → i ≠ j := by
      rintro j c e o rfl
      have hi : i < cs.length := by
        have := (List.getElem?_eq_some_iff.mp e).1
        simpa using this
      rw [List.getElem?_set_self hi] at e
      cases e
      cases o
    have n1 := g j c e o
    have n2 := g k c' e' o'
    rw [List.getElem?_set_ne n1] at e q
    rw [List.getElem?_set_ne n2] at e' q'
    exact s.dis j k c c' l ne e e' o o' q q'
/-- the list that is being made -/
def Mk1 (K : PySem.W.Frag) (H0 H : Hp) (L : Addr) (out : List D) (H' : Hp) : Prop := ∃ H0' acc, Grow H0 H H0' H' ∧ H0' L = none ∧ H' L = some (.lst acc) ∧ RepA K H0' acc out
theorem Mk1.start {K : PySem.W.Frag} {H0 H : Hp} {L : Addr} (i : Same H0 H) (hn : H L = none) : Mk1 K H0 H L [] (upd H L (.lst [])) := ⟨H0, [], Grow.own i hn, i.free hn, upd_same, .nil⟩
/-- an item more -/
theorem Mk1.more {K : PySem.W.Frag} {H0 H H' H0' H2 H02 : Hp} {L : Addr} {out : List D} {acc : List V} {y : V} {d : D} (hn : H L = none) (g1 : Grow H0 H H0' H') (h0 : H0' L = none) (hL : H' L = some (.lst acc)) (r : RepA K H0' acc out) (g2 : Grow H0' H' H02 H2) (ry : Rep K H02 y d) :
    H2 L = some (.lst acc) ∧ Mk1 K H0 H L (out ++ [d]) (upd H2 L (.lst (acc ++ [y]))) := by
  have h2 := g2.h _ _ hL
  have h02 := not_tup g2 h0 hL (fun xs z => by cases z)
  have g := g1.trans g2
  refine ⟨h2, H02, _, ⟨g.b, fun a u e => ?_, fun a u e => ?_, g.n⟩, h02, upd_same, (r.mono g2.b).snoc ry⟩
  · rw [upd_ne (ne_of_none e h02)]; exact g.i a u e
  · rw [upd_ne (ne_of_none e hn)]; exact g.h a u e
theorem Mk1.grow {K : PySem.W.Frag} {H0 H H' H0' H2 H02 : Hp} {L : Addr} {out : List D} {acc : List V} (g1 : Grow H0 H H0' H') (h0 : H0' L = none) (hL : H' L = some (.lst acc)) (r : RepA K H0' acc out) (g2 : Grow H0' H' H02 H2) : Mk1 K H0 H L out H2 :=
  ⟨H02, acc, g1.trans g2, not_tup g2 h0 hL (fun xs z => by cases z), g2.h _ _ hL, r.mono g2.b⟩
theorem wipe1 {σ : St} {i : Nat} {x : Option V} : wipe ((wipe σ [i]).set i x) [i] = wipe σ [i] := by
  show ((σ.set i none).set i x).set i none = σ.set i none
  rw [List.set_set, List.set_set]
section
variable {X : Cx} {cs : List C} {st : Stmt} {a b c e o : Expr} {pos p pos' : Pos} {d : D} {ds : List D} {F : DE} {i : Nat} {sc : Scope} {elt iter : Expr} {x : Str} {px : Pos}
/-- a reading of a comprehension gives a new list -/
def RO (K : PySem.W.Frag) (cs : List C) (t : TE) (ds : List D) : Prop := ∀ (He Hb H0 H : Hp) (σ : St) (Q : VK), SR K He Hb H0 H σ cs →
  (∀ l vs H' H0', Grow H0 H H0' H' → H l = none → H0' l = none → H' l = some (.lst vs) → RepA K H0' vs ds → Q (.ref l) H') → t σ H Q
theorem eo_of {t : TE} (hp : PE X e t) (h : RO X.K cs t ds) : EO X cs e ds := fun He Hb H0 H σ Q s q => wE_of hp (h _ _ _ _ _ _ s q)
theorem sx_setR (i : Nat) {t : TE} (h : RO X.K cs t ds) (hp : PS X st (tAsg t (gName i))) (k : F.nx (cs.set i (.ol ds))) : SX X cs st F := fun He Hb H0 H σ E s q =>
  wS_of hp (h _ _ _ _ _ _ s fun l vs H1 H01 g hl h0 h1 r => q.nx _ _ _ _ g.b (own_new (c0 := .ol ds) s g hl ⟨l, vs, rfl, h0, h1, r⟩) k)
/-- one turn: the target's slot i takes d -/
theorem lc_turn {K : PySem.W.Frag} {He Hb H0 H H' : Hp} {σ : St} {L : Addr} {out out' : List D} {v : V} {d : D} {tt : TT} {te : TE} (s : SR K He Hb H0 H σ cs) (hn : H L = none) (m : Mk1 K H0 H L out H') (rv : Rep K H0 v d) (hsz : out.length < 1000000)
    (hb : ∀ (He Hb H1 H2 : Hp) (σ : St), SR K He Hb H1 H2 σ (cs.set i (.sh d)) → ∀ Q, (∀ k H3 H4, Grow H1 H2 H3 H4 → (k = false → out' = out) → (k = true → ∀ (He Hb H1 H2 : Hp) (σ : St), SR K He Hb H1 H2 σ (cs.set i (.sh d)) → ∃ d', out' = out ++ [d'] ∧ ∀ Q : VK, (∀ y H4 H5, Grow H1 H2 H4 H5 → Rep K H4 y d' → Q y H5) → te σ H2 Q) → Q k H4) → tt σ H2 Q) :
    gName i v (wipe σ [i]) H' fun σ2 H2 => wipe σ2 [i] = wipe σ [i] ∧ tt σ2 H2 fun b H3 => if b = true then te σ2 H3 fun y H4 => ∃ acc, H4 L = some (.lst acc) ∧ acc.length < sizeLine ∧ Mk1 K H0 H L out' (upd H4 L (.lst (acc ++ [y]))) else Mk1 K H0 H L out' H3 := by
  obtain ⟨H0', acc, g1, h0, hL, r⟩ := m
  refine ⟨wipe1, ?_⟩
  have s1 : SR K He Hb H0' H' ((σ.set i none).set i (some v)) (cs.set i (.sh d)) := by
    have z := ((s.grow g1).none i).set (i := i) (v := v) (d := d) (rv.mono g1.b)
    have e : (cs.set i C.any).set i (C.sh d) = cs.set i (C.sh d) := by rw [List.set_set]
    rw [e] at z
    exact z
  refine hb _ _ _ _ _ s1 _ fun k H3 H4 g2 hf ht => ?_
  cases k with
  | false =>
    rw [if_neg Bool.false_ne_true, hf rfl]
    exact Mk1.grow g1 h0 hL r g2
  | true =>
    rw [if_pos rfl]
    obtain ⟨d', e, q⟩ := ht rfl _ _ _ _ _ (s1.grow g2)
    refine q _ fun y H5 H6 g3 ry => ?_
    have z := Mk1.more hn g1 h0 hL r (g2.trans g3) ry
    refine ⟨acc, z.1, by rw [r.len]; exact Nat.lt_of_lt_of_le hsz (by decide), ?_⟩
    rw [e]
    exact z.2
/-- [elt for x in xs] -/
theorem ro_L {K : PySem.W.Frag} (hK : X.K = K) (fo : D → D) (hit : EX X cs iter (.lst ds)) (hsz : ds.length < 1000000) (he : ∀ (j : Nat) (d : D), ds[j]? = some d → BX X sc fun Y => EX Y (cs.set i (.sh d)) elt (fo d)) :
    RO K cs (tLc (iList K (wE X iter)) (gName i) tYes (uE X sc elt) [i]) (ds.map fo) := fun He Hb H0 H σ Q s q => by
  subst hK
  refine hit _ _ _ _ _ _ s fun v H1 H01 g r => ?_
  cases r with
  | @lst a vs _ hl r =>
    refine ⟨a, rfl, ⟨vs, SqL.of (g.i _ _ hl)⟩, fun L hn => ?_⟩
    have s1 := s.grow g
    refine lc_list (K := X.K) (a := a) (xs := vs) (fun j H' => Mk1 X.K H01 H1 L ((ds.take j).map fo) H') (by rw [List.take_zero]; exact Mk1.start g.i hn) (fun j H' _ ⟨H0', acc, g1, _⟩ => SqL.of (g1.i _ _ (g1.b _ _ hl))) (fun j y H' hj m => ?_) (fun H' m => ?_)
    · obtain ⟨d, hd, rd⟩ := r.get hj
      have hlt := (List.getElem?_eq_some_iff.mp hd).1
      refine lc_turn (out' := (ds.take (j + 1)).map fo) s1 hn m rd (by rw [List.length_map, List.length_take]; omega) fun He Hb H1 H2 σ s Q k => k true H1 H2 (Grow.refl s.i) (fun z => Bool.noConfusion z) fun _ He Hb H1 H2 σ s => ⟨fo d, by rw [List.take_add_one, hd]; simp, fun Q k s' H' Cl cl fp => he j d hd s' H' Cl cl fp _ _ _ _ _ _ s fun y H5 H4 g ry => k y H4 H5 g ry⟩
    · rw [r.len, List.take_length] at m
      obtain ⟨H0', acc, g1, h0, hL, r2⟩ := m
      exact q L acc H' H0' (g.trans g1) (g.h.free hn) h0 hL r2
theorem ro_Lif {K : PySem.W.Frag} (hK : X.K = K) (fo : D → D) (fp : D → Bool) (hit : EX X cs iter (.lst ds)) (hsz : ds.length < 1000000) (ht : ∀ (j : Nat) (d : D), ds[j]? = some d → BX X sc fun Y => TX Y (cs.set i (.sh d)) c (fp d))
    (he : ∀ (j : Nat) (d : D), ds[j]? = some d → fp d = true → BX X sc fun Y => EX Y (cs.set i (.sh d)) elt (fo d)) :
    RO K cs (tLc (iList K (wE X iter)) (gName i) (uT X sc c) (uE X sc elt) [i]) ((ds.filter fp).map fo) := fun He Hb H0 H σ Q s q => by
  subst hK
  refine hit _ _ _ _ _ _ s fun v H1 H01 g r => ?_
  cases r with
  | @lst a vs _ hl r =>
    refine ⟨a, rfl, ⟨vs, SqL.of (g.i _ _ hl)⟩, fun L hn => ?_⟩
    have s1 := s.grow g
    refine lc_list (K := X.K) (a := a) (xs := vs) (fun j H' => Mk1 X.K H01 H1 L (((ds.take j).filter fp).map fo) H') (by rw [List.take_zero]; exact Mk1.start g.i hn) (fun j H' _ ⟨H0', acc, g1, _⟩ => SqL.of (g1.i _ _ (g1.b _ _ hl))) (fun j y H' hj m => ?_) (fun H' m => ?_)
    · obtain ⟨d, hd, rd⟩ := r.get hj
      have hlt := (List.getElem?_eq_some_iff.mp hd).1
      have hle := List.length_filter_le fp (ds.take j)
      rw [List.length_take] at hle
      refine lc_turn (out' := ((ds.take (j + 1)).filter fp).map fo) s1 hn m rd (by rw [List.length_map]; omega) fun He Hb H1 H2 σ s Q k s' H' Cl cl fpp => ht j d hd s' H' Cl cl fpp _ _ _ _ _ _ s fun H5 H4 g => k _ H4 H5 g (fun z => ?_) fun z He Hb H1 H2 σ s => ⟨fo d, ?_, fun Q k s' H' Cl cl fpp => he j d hd z s' H' Cl cl fpp _ _ _ _ _ _ s fun y H5 H4 g ry => k y H4 H5 g ry⟩
      · rw [List.take_add_one, hd]; simp [z]
      · rw [List.take_add_one, hd]; simp [z]
    · rw [r.len, List.take_length] at m
      obtain ⟨H0', acc, g1, h0, hL, r2⟩ := m
      exact q L acc H' H0' (g.trans g1) (g.h.free hn) h0 hL r2
/-- [elt for x in range(m)] -/
theorem ro_R {K : PySem.W.Frag} (hK : X.K = K) {m : Int} (fo : Nat → D) (ha : EB X cs a (.int m)) (hm : -1000000 ≤ m ∧ m < 1000000) (hpl : Pl a) (he : ∀ j : Nat, j < m.toNat → BX X sc fun Y => EX Y (cs.set i (.sh (.int j))) elt (fo j)) :
    RO K cs (tLc (iRng1 (wA X [a])) (gName i) tYes (uE X sc elt) [i]) ((List.range m.toNat).map fo) := fun He Hb H0 H σ Q s q => by
  subst hK
  refine eab_cons ha eab_nil hpl _ _ _ _ _ _ s fun vs H1 H01 g r => ?_
  cases r with
  | cons r1 r =>
    cases r
    cases r1
    refine ⟨m, rfl, by omega, by omega, fun L hn => ?_⟩
    have s1 := s.grow g
    refine lc_range (lo := 0) (n := m.toNat) (fun j H' => Mk1 X.K H01 H1 L ((List.range j).map fo) H') (by exact Mk1.start g.i hn) (fun j H' hj mk => ?_) (fun H' mk => ?_)
    · refine lc_turn (d := .int j) (out' := (List.range (j + 1)).map fo) s1 hn mk (by rw [Int.zero_add]; exact .int _) (by rw [List.length_map, List.length_range]; omega) fun He Hb H1 H2 σ s Q k => k true H1 H2 (Grow.refl s.i) (fun z => Bool.noConfusion z) fun _ He Hb H1 H2 σ s => ⟨fo j, by rw [List.range_succ]; simp, fun Q k s' H' Cl cl fp => he j hj s' H' Cl cl fp _ _ _ _ _ _ s fun y H5 H4 g ry => k y H4 H5 g ry⟩
    · obtain ⟨H0', acc, g1, h0, hL, r2⟩ := mk
      exact q L acc H' H0' (g.trans g1) (g.h.free hn) h0 hL r2
theorem ro_Rif {K : PySem.W.Frag} (hK : X.K = K) {m : Int} (fo : Nat → D) (fp : Nat → Bool) (ha : EB X cs a (.int m)) (hm : -1000000 ≤ m ∧ m < 1000000) (hpl : Pl a) (ht : ∀ j : Nat, j < m.toNat → BX X sc fun Y => TX Y (cs.set i (.sh (.int j))) c (fp j))
    (he : ∀ j : Nat, j < m.toNat → fp j = true → BX X sc fun Y => EX Y (cs.set i (.sh (.int j))) elt (fo j)) :
    RO K cs (tLc (iRng1 (wA X [a])) (gName i) (uT X sc c) (uE X sc elt) [i]) (((List.range m.toNat).filter fp).map fo) := fun He Hb H0 H σ Q s q => by
  subst hK
  refine eab_cons ha eab_nil hpl _ _ _ _ _ _ s fun vs H1 H01 g r => ?_
  cases r with
  | cons r1 r =>
    cases r
    cases r1
    refine ⟨m, rfl, by omega, by omega, fun L hn => ?_⟩
    have s1 := s.grow g
    refine lc_range (lo := 0) (n := m.toNat) (fun j H' => Mk1 X.K H01 H1 L (((List.range j).filter fp).map fo) H') (by exact Mk1.start g.i hn) (fun j H' hj mk => ?_) (fun H' mk => ?_)
    · have hle := List.length_filter_le fp (List.range j)
      rw [List.length_range] at hle
      refine lc_turn (d := .int j) (out' := ((List.range (j + 1)).filter fp).map fo) s1 hn mk (by rw [Int.zero_add]; exact .int _) (by rw [List.length_map]; omega) fun He Hb H1 H2 σ s Q k s' H' Cl cl fpp => ht j hj s' H' Cl cl fpp _ _ _ _ _ _ s fun H5 H4 g => k _ H4 H5 g (fun z => ?_) fun z He Hb H1 H2 σ s => ⟨fo j, ?_, fun Q k s' H' Cl cl fpp => he j hj z s' H' Cl cl fpp _ _ _ _ _ _ s fun y H5 H4 g ry => k y H4 H5 g ry⟩
      · rw [List.range_succ]; simp [z]
      · rw [List.range_succ]; simp [z]
    · obtain ⟨H0', acc, g1, h0, hL, r2⟩ := mk
      exact q L acc H' H0' (g.trans g1) (g.h.free hn) h0 hL r2
end
end DL

end
section
set_option maxHeartbeats 2000000
namespace DL
open PySem PySem.Spec L2
section
variable {X : Cx} {sc : Scope} {e c : Expr}
theorem pe_u : BX X sc fun Y => PE Y e (uE X sc e) := fun s H Cl cl fp => ⟨fun pins s' _ _ _ I h => h s H Cl cl fp pins s' I⟩
theorem pts_u : BX X sc fun Y => PTs Y [c] (uT X sc c) := fun s H Cl cl fp => pts_one ⟨fun pins s' _ _ _ I h => h s H Cl cl fp pins s' I⟩
end
/-- one row more: xs in an ifs -/
theorem sx_ifF {X : Cx} {cs : List C} {c : Expr} {A B : List Stmt} {pos : Pos} {F : DE} (h : TX X cs c false) (h2 : SXs X cs B F) : SX X cs (.If c A B pos) F := sx_if h (fun z => Bool.noConfusion z) fun _ => h2
theorem sx_ifT {X : Cx} {cs : List C} {c : Expr} {A B : List Stmt} {pos : Pos} {F : DE} (h : TX X cs c true) (h2 : SXs X cs A F) : SX X cs (.If c A B pos) F := sx_if h (fun _ => h2) fun z => Bool.noConfusion z
/-- the built-ins that the text calls by their names -/
structure Glb (mg : Str → Option Value) : Prop where
  len : mg "len" = none
  range : mg "range" = none
  list : mg "list" = none
  tuple : mg "tuple" = none
  sorted : mg "sorted" = none
  isinst : mg "isinstance" = none
  int : mg "int" = none
  bool : mg "bool" = none
end DL
namespace DL
open PySem PySem.Spec L2
section
variable {X : Cx} {cs : List C} {c : Expr} {st : Stmt} {A B sts : List Stmt} {pos : Pos} {F : DE}
theorem SXs.imp {N : List C → Prop} (h : SXs X cs sts { F with nx := N }) (k : ∀ cs', N cs' → F.nx cs') : SXs X cs sts F := fun He Hb H0 H σ E s q => h _ _ _ _ _ _ s ⟨fun cs a b σ e s z => q.nx _ _ _ _ e s (k _ z), q.rt, q.bk, q.ct, q.ex⟩
theorem SX.imp {N : List C → Prop} (h : SX X cs st { F with nx := N }) (k : ∀ cs', N cs' → F.nx cs') : SX X cs st F := fun He Hb H0 H σ E s q => h _ _ _ _ _ _ s ⟨fun cs a b σ e s z => q.nx _ _ _ _ e s (k _ z), q.rt, q.bk, q.ct, q.ex⟩
/-- both ways come to the same slots -/
theorem sx_ifJ {k : Bool} (cs2 : List C) (h : TX X cs c k) (hA : k = true → SXs X cs A { F with nx := fun cs' => cs' = cs2 }) (hB : k = false → SXs X cs B { F with nx := fun cs' => cs' = cs2 }) (hn : F.nx cs2) : SX X cs (.If c A B pos) F :=
  sx_if h (fun z => (hA z).imp fun cs' e => by rw [e]; exact hn) (fun z => (hB z).imp fun cs' e => by rw [e]; exact hn)
end
end DL

end
section
set_option maxHeartbeats 2000000
namespace DL
open PySem PySem.Spec L2

/-! the law's draws -/
def drawn (c k : Int) : Int :=
  let one := (c % 1000003 + 1) * (k * 48271 + 11) % 1000003
  let other := (one * one + k * 7919 + c / 1000003) % 1000003
  other * other % 1000003
theorem drawn_lo (c k : Int) : 0 ≤ drawn c k := Int.emod_nonneg _ (by decide)
theorem drawn_hi (c k : Int) : drawn c k < 1000003 := Int.emod_lt_of_pos _ (by decide)
/-- the script's number at a place, 0 behind its end -/
def cellAt (ns : List Int) (k : Int) : Int := ns.getD k.toNat 0
def bit (c k : Int) : Bool := decide (drawn (c + 5) (k * 3 + 1) / 5 % 2 = 1)
/-- put at a place -/
def ins {α : Type} (l : List α) (n : Int) (x : α) : List α := l.take n.toNat ++ [x] ++ l.drop n.toNat
theorem ins_perm {α : Type} (l : List α) (n : Int) (x : α) : (ins l n x).Perm (x :: l) := by
  unfold ins
  have h := List.take_append_drop n.toNat l
  have e : (List.take n.toNat l ++ [x] ++ List.drop n.toNat l).Perm ([x] ++ List.take n.toNat l ++ List.drop n.toNat l) := List.Perm.append_right _ List.perm_append_comm
  refine e.trans ?_
  rw [List.append_assoc, h]
  exact List.Perm.refl _
theorem ins_map {α β : Type} (f : α → β) (l : List α) (n : Int) (x : α) : (ins l n x).map f = ins (l.map f) n (f x) := by
  unfold ins
  rw [List.map_append, List.map_append, List.map_take, List.map_drop]
  rfl
theorem ins_len {α : Type} (l : List α) (n : Int) (x : α) : (ins l n x).length = l.length + 1 := by
  rw [(ins_perm l n x).length_eq]
  rfl
def order (c : Int) : Nat → List Int
  | 0 => []
  | k + 1 => ins (order c k) (drawn c (k : Int) % ((k : Int) + 1)) (k : Int)
theorem order_len (c : Int) : ∀ n, (order c n).length = n
  | 0 => rfl
  | n + 1 => by rw [order, ins_len, order_len c n]
theorem order_perm (c : Int) : ∀ n, (order c n).Perm ((List.range n).map Int.ofNat)
  | 0 => List.Perm.refl _
  | n + 1 => by
    rw [order]
    refine (ins_perm _ _ _).trans ?_
    rw [List.range_succ, List.map_append]
    exact ((order_perm c n).cons _).trans (List.perm_append_comm (l₁ := [((n : Nat) : Int)]))
theorem order_mem {c : Int} {n : Nat} {x : Int} : x ∈ order c n ↔ 0 ≤ x ∧ x < n := by
  rw [(order_perm c n).mem_iff, List.mem_map]
  constructor
  · rintro ⟨k, hk, rfl⟩
    have := List.mem_range.mp hk
    exact ⟨Int.natCast_nonneg k, by show ((k : Nat) : Int) < n; omega⟩
  · rintro ⟨h0, h1⟩
    exact ⟨x.toNat, List.mem_range.mpr (by omega), Int.toNat_of_nonneg h0⟩
theorem order_nd (c : Int) (n : Nat) : (order c n).Nodup := by
  rw [(order_perm c n).nodup_iff]
  exact List.Pairwise.map _ (fun a b h z => h (Int.ofNat.inj z)) List.nodup_range

/-! dicts of truth values on keys -/
def dk (keys : List (Int × Int)) (g : Int × Int → Bool) : List ((Int × Int) × D) := keys.map fun k => (k, .bl (g k))
theorem dk_len {keys : List (Int × Int)} {g : Int × Int → Bool} : (dk keys g).length = keys.length := by unfold dk; rw [List.length_map]
theorem lk_dk {g : Int × Int → Bool} {k : Int × Int} : ∀ {keys : List (Int × Int)}, k ∈ keys → lk (dk keys g) k = some (.bl (g k))
  | a :: r, h => by
    unfold dk lk
    rw [List.map_cons, List.find?_cons]
    by_cases e : a = k
    · simp [e]
    · simp only [decide_eq_false e]
      exact lk_dk (keys := r) ((List.mem_cons.mp h).resolve_left fun z => e z.symm)
theorem lk_dk_no {g : Int × Int → Bool} {k : Int × Int} : ∀ {keys : List (Int × Int)}, k ∉ keys → lk (dk keys g) k = none
  | [], _ => rfl
  | a :: r, h => by
    unfold dk lk
    rw [List.map_cons, List.find?_cons]
    have e : ¬ a = k := fun z => h (by simp [z])
    simp only [decide_eq_false e]
    exact lk_dk_no (keys := r) fun z => h (by simp [z])
theorem any_dk {g : Int × Int → Bool} {k : Int × Int} {keys : List (Int × Int)} : ((dk keys g).any fun p => decide (p.1 = k)) = decide (k ∈ keys) := by
  unfold dk
  rw [List.any_map, Bool.eq_iff_iff, List.any_eq_true, decide_eq_true_eq]
  constructor
  · rintro ⟨x, hx, h⟩
    have : x = k := by simpa using h
    rwa [← this]
  · intro h
    exact ⟨k, h, by simp⟩
theorem put_new {g : Int × Int → Bool} {k : Int × Int} {keys : List (Int × Int)} {v : Bool} (h : k ∉ keys) (hv : g k = v) : put (dk keys g) k (.bl v) = dk (keys ++ [k]) g := by
  unfold put
  rw [any_dk, decide_eq_false h, if_neg Bool.false_ne_true]
  unfold dk
  rw [List.map_append, ← hv]
  rfl
theorem put_old {g : Int × Int → Bool} {k : Int × Int} {keys : List (Int × Int)} {v : Bool} (h : k ∈ keys) : put (dk keys g) k (.bl v) = dk keys (fun x => if x = k then v else g x) := by
  unfold put
  rw [any_dk, decide_eq_true h, if_pos rfl]
  unfold dk
  rw [List.map_map]
  refine List.map_congr_left fun x hx => ?_
  show (if x = k then (x, D.bl v) else (x, D.bl (g x))) = (x, D.bl (if x = k then v else g x))
  split <;> rfl
/-- the pairs (a, b) with a in a list's first part, in rows -/
def rows (n : Nat) (w : Nat → Nat) : List (Int × Int) := (List.range n).flatMap fun a : Nat => (List.range (w a)).map fun b : Nat => ((a : Int), (b : Int))
theorem rows_succ {n : Nat} {w : Nat → Nat} : rows (n + 1) w = rows n w ++ (List.range (w n)).map fun b : Nat => ((n : Int), (b : Int)) := by
  unfold rows
  rw [List.range_succ, List.flatMap_append]
  simp
theorem rows_mem {n : Nat} {w : Nat → Nat} {x : Int × Int} : x ∈ rows n w ↔ ∃ a b : Nat, a < n ∧ b < w a ∧ x = ((a : Int), (b : Int)) := by
  unfold rows
  simp only [List.mem_flatMap, List.mem_map, List.mem_range]
  constructor
  · rintro ⟨a, ha, b, hb, e⟩; exact ⟨a, b, ha, hb, e.symm⟩
  · rintro ⟨a, b, ha, hb, e⟩; exact ⟨a, ha, b, hb, e.symm⟩
/-- .. and the next row up to b -/
def rowsTo (n : Nat) (w : Nat → Nat) (b : Nat) : List (Int × Int) := rows n w ++ (List.range b).map fun b : Nat => ((n : Int), (b : Int))
theorem rowsTo_zero {n : Nat} {w : Nat → Nat} : rowsTo n w 0 = rows n w := by unfold rowsTo; simp
theorem rowsTo_end {n : Nat} {w : Nat → Nat} : rowsTo n w (w n) = rows (n + 1) w := rows_succ.symm
theorem rowsTo_succ {n b : Nat} {w : Nat → Nat} : rowsTo n w (b + 1) = rowsTo n w b ++ [((n : Int), (b : Int))] := by
  unfold rowsTo
  rw [List.range_succ, List.map_append, List.append_assoc]
  rfl
theorem rowsTo_no {n b : Nat} {w : Nat → Nat} : ((n : Int), (b : Int)) ∉ rowsTo n w b := by
  unfold rowsTo
  intro h
  rcases List.mem_append.mp h with h | h
  · obtain ⟨a, c, ha, _, e⟩ := rows_mem.mp h
    have := congrArg Prod.fst e
    simp only at this
    omega
  · obtain ⟨c, hc, e⟩ := List.mem_map.mp h
    have := congrArg Prod.snd e
    simp only at this
    have := List.mem_range.mp hc
    omega
theorem rows_nd (n : Nat) (w : Nat → Nat) : (rows n w).Nodup := by
  induction n with
  | zero => simp [rows]
  | succ n ih =>
    rw [rows_succ]
    rw [List.nodup_append]
    refine ⟨ih, List.Pairwise.map _ (fun (a b : Nat) h z => h (by have := congrArg Prod.snd z; simp only at this; omega)) List.nodup_range, fun x hx y hy e => ?_⟩
    obtain ⟨a, b, ha, _, e1⟩ := rows_mem.mp hx
    obtain ⟨c, _, e2⟩ := List.mem_map.mp hy
    rw [e, ← e2] at e1
    have := congrArg Prod.fst e1
    simp only at this
    omega
theorem rows_len {n : Nat} {w : Nat → Nat} {m : Nat} (h : ∀ a, w a ≤ m) : (rows n w).length ≤ n * m := by
  induction n with
  | zero => simp [rows]
  | succ n ih =>
    rw [rows_succ, List.length_append, List.length_map, List.length_range, Nat.succ_mul]
    have := h n
    omega
theorem rowsTo_len {n b : Nat} {w : Nat → Nat} {m : Nat} (h : ∀ a, w a ≤ m) (hb : b ≤ m) : (rowsTo n w b).length ≤ n * m + m := by
  unfold rowsTo
  rw [List.length_append, List.length_map, List.length_range]
  have := rows_len (n := n) h
  omega
end DL

end
section
set_option maxHeartbeats 4000000
namespace Lw
open PySem PySem.Spec L2 DL
def top (i : Nat) : Stmt := PySem.Challenge.pw_arrowties_k15_whole_asked_in_any_order.main.body.getD i (.Pass ⟨0, 0, 0, 0⟩)
abbrev rCell : List D → (Out → Prop) → Prop := fun ds post => ∃ (ns : List Int) (k : Int), ds = [.scr ns, .int k] ∧ 0 ≤ k ∧ post (.ret (.int (cellAt ns k)))
abbrev rDrawn : List D → (Out → Prop) → Prop := fun ds post => ∃ c k : Int, ds = [.int c, .int k] ∧ (-10000000 ≤ k ∧ k ≤ 10000000) ∧ post (.ret (.int (drawn c k)))
abbrev rOrder : List D → (Out → Prop) → Prop := fun ds post => ∃ c m : Int, ds = [.int c, .int m] ∧ (0 ≤ m ∧ m ≤ 1000) ∧ post (.ret (.lst ((order c m.toNat).map D.int)))
abbrev rBit : List D → (Out → Prop) → Prop := fun ds post => ∃ c k : Int, ds = [.int c, .int k] ∧ (-1000000 ≤ k ∧ k ≤ 1000000) ∧ post (.ret (.bl (bit c k)))
section
variable {P : Program} {w : World} {K : PySem.W.Frag} {mg : Str → Option Value} {base : Heap}
abbrev s_law_cell_at : Stmt := top 36
theorem sc_law_cell_at : FnScope ["_law_script", "_law_k"] ["_law_script", "_law_k"] (defScope s_law_cell_at) := ⟨rfl, rfl, rfl, by decide +kernel, rfl, by decide +kernel, by decide +kernel⟩
theorem ok_cell {f : Addr} {fd : FuncData} (F : Fun K "_law_cell_at" "_law_cell_at" s_law_cell_at f fd) (T : Glb mg) : FnOk P w K mg base CX0 1 f fd ["_law_script", "_law_k"] (spD K rCell) := by
  have nd := sc_law_cell_at.nd
  refine fn_okD F sc_law_cell_at (by rintro _ _ ⟨_, _, rfl, _⟩; rfl) (by decide) ?_
  rintro X _ post ⟨cdv, A, outer, s, H, E, rfl⟩ hr ⟨ns, k, rfl, hk, hp⟩
  refine sxs_cons (sx_if (tx_lt (eb_v 1) (EX.bo (ex_lenS T.len (eb_v 0)))) (fun h => ?_) (fun h => ?_))
  · refine sxs_one (sx_ret (ex_ixS (ex_v 0) (eb_v 1) (j := cellAt ns k) ?_) hp)
    have h : k < (ns.length : Int) := by simpa using h
    obtain ⟨n, rfl⟩ := Int.eq_ofNat_of_zero_le hk
    have h2 : n < ns.length := by omega
    have e : ns[n]? = some (cellAt ns (n : Int)) := by
      unfold cellAt
      rw [Int.toNat_natCast, List.getD_eq_getElem?_getD, List.getElem?_eq_getElem h2]
      rfl
    exact atI_nat e
  · refine sxs_nil (sxs_one (sx_ret (ex_int.to ?_) hp))
    have h : ¬ k < (ns.length : Int) := by simpa using h
    unfold cellAt
    rw [List.getD_eq_getElem?_getD, List.getElem?_eq_none (by omega)]
    rfl
abbrev s_law_drawn : Stmt := top 39
theorem sc_law_drawn : FnScope ["_law_cell", "_law_k", "_law_one", "_law_other"] ["_law_cell", "_law_k"] (defScope s_law_drawn) := ⟨rfl, rfl, rfl, by decide +kernel, rfl, by decide +kernel, by decide +kernel⟩
theorem ok_drawn {f : Addr} {fd : FuncData} (F : Fun K "_law_drawn" "_law_drawn" s_law_drawn f fd) (T : Glb mg) : FnOk P w K mg base CX0 1 f fd ["_law_cell", "_law_k"] (spD K rDrawn) := by
  have nd := sc_law_drawn.nd
  refine fn_okD F sc_law_drawn (by rintro _ _ ⟨_, _, rfl, _⟩; rfl) (by decide) ?_
  rintro X _ post ⟨cdv, A, outer, s, H, E, rfl⟩ hr ⟨c, k, rfl, hk, hp⟩
  refine sxs_cons (sx_set 2 nd (ex_mod (EX.bo (ex_mul (EX.bo (ex_add (EX.bo (ex_mod (eb_v 0) (EX.bo ex_int) (by first | decide | omega | assumption))) (EX.bo ex_int))) (EX.bo (ex_add (EX.bo (ex_mul (eb_v 1) (EX.bo ex_int) (by first | decide | omega | assumption))) (EX.bo ex_int))) (by first | decide | omega | assumption))) (EX.bo ex_int) (by first | decide | omega | assumption)) (sxs_cons (sx_set 3 nd (ex_mod (EX.bo (ex_add (EX.bo (ex_add (EX.bo (ex_mul (eb_v 2) (eb_v 2) (by first | decide | omega | assumption))) (EX.bo (ex_mul (eb_v 1) (EX.bo ex_int) (by first | decide | omega | assumption))))) (EX.bo (ex_fdiv (eb_v 0) (EX.bo ex_int) (by first | decide | omega | assumption))))) (EX.bo ex_int) (by first | decide | omega | assumption)) ?_)))
  refine sxs_one (sx_ret (ex_mod (EX.bo (ex_mul (eb_v 3) (eb_v 3) (by first | decide | omega | assumption))) (EX.bo ex_int) (by first | decide | omega | assumption)) ?_)
  exact hp
abbrev s_law_order : Stmt := top 40
theorem sc_law_order : FnScope ["_law_cell", "_law_many", "_law_found", "_law_k"] ["_law_cell", "_law_many"] (defScope s_law_order) := ⟨rfl, rfl, rfl, by decide +kernel, rfl, by decide +kernel, by decide +kernel⟩
theorem ok_order {f : Addr} {fd : FuncData} (F : Fun K "_law_order" "_law_order" s_law_order f fd) (T : Glb mg) (gDrawn : FnC P w K mg base CX0 1 "_law_drawn" rDrawn) : FnOk P w K mg base CX0 2 f fd ["_law_cell", "_law_many"] (spD K rOrder) := by
  have nd := sc_law_order.nd
  refine fn_okD F sc_law_order (by rintro _ _ ⟨_, _, rfl, _⟩; rfl) (by decide) ?_
  rintro X _ post ⟨cdv, A, outer, s, H, E, rfl⟩ hr ⟨c, m, rfl, hm, hp⟩
  refine sxs_cons (sx_setO 2 nd (eo_lst ea_nil) ?_)
  refine sxs_cons (sx_forR 3 (fun j cs => ∃ v, cs = [.sh (.int c), .sh (.int m), .ol ((order c j).map D.int), v]) rfl nd .never T.range (eb_v 1) (by omega) ⟨_, rfl⟩ ?_ ?_)
  · rintro j cs' hj ⟨v, rfl⟩
    have h0 := drawn_lo c j
    have h1 : drawn c j % ((j : Int) + 1) < (j : Int) + 1 := Int.emod_lt_of_pos _ (by omega)
    have h2 : 0 ≤ drawn c j % ((j : Int) + 1) := Int.emod_nonneg _ (by omega)
    refine sxs_one (sx_insert 2 rfl (EX.bo (ex_mod (EX.bo (ex_call gDrawn (hr.mono (by decide)) pass0 (ea_cons (ex_v 0) (ea_cons (ex_v 3) ea_nil)) ⟨_, _, rfl, (by omega), rfl⟩)) (EX.bo (ex_add (eb_v 3) (EX.bo ex_int))) (by first | decide | omega | assumption))) (ex_v 3) ?_ ?_ (fun _ _ h1 h2 => ps_expr (pe_bm PySem.F.plainAttrs_list PySem.F.slot_list_insert PySem.F.type_list_insert mt_insert (pv 2) (pa_cons h1 (pa_cons h2 pa_nil)))) ?_)
    · omega
    · rw [List.length_map, order_len]; omega
    · refine ⟨.sh (.int j), ?_⟩
      rw [order, ins_map]
      rfl
  · rintro cs' ⟨v, rfl⟩
    refine sxs_frL 2 rfl ?_
    refine sxs_one (sx_ret (ex_v 2) ?_)
    exact hp
abbrev s_law_bit : Stmt := top 41
theorem sc_law_bit : FnScope ["_law_cell", "_law_k"] ["_law_cell", "_law_k"] (defScope s_law_bit) := ⟨rfl, rfl, rfl, by decide +kernel, rfl, by decide +kernel, by decide +kernel⟩
theorem ok_bit {f : Addr} {fd : FuncData} (F : Fun K "_law_bit" "_law_bit" s_law_bit f fd) (T : Glb mg) (gDrawn : FnC P w K mg base CX0 1 "_law_drawn" rDrawn) : FnOk P w K mg base CX0 2 f fd ["_law_cell", "_law_k"] (spD K rBit) := by
  have nd := sc_law_bit.nd
  refine fn_okD F sc_law_bit (by rintro _ _ ⟨_, _, rfl, _⟩; rfl) (by decide) ?_
  rintro X _ post ⟨cdv, A, outer, s, H, E, rfl⟩ hr ⟨c, k, rfl, hk, hp⟩
  refine sxs_one (sx_ret (ex_eqI (EX.bo (ex_mod (EX.bo (ex_fdiv (EX.bo (ex_call gDrawn (hr.mono (by decide)) pass0 (ea_cons (ex_add (eb_v 0) (EX.bo ex_int)) (ea_cons (ex_add (EX.bo (ex_mul (eb_v 1) (EX.bo ex_int) (by first | decide | omega | assumption))) (EX.bo ex_int)) ea_nil)) ⟨_, _, rfl, (by omega), rfl⟩)) (EX.bo ex_int) (by first | decide | omega | assumption))) (EX.bo ex_int) (by first | decide | omega | assumption))) (EX.bo ex_int)) ?_)
  exact hp
end
end Lw

end
section
set_option maxHeartbeats 2000000
namespace DL
open PySem PySem.Spec L2
theorem ki_tt : kitB "tuple" "tuple" = some true := by decide +kernel
theorem ki_lt : kitB "list" "tuple" = some false := by decide +kernel
theorem ki_it : kitB "int" "tuple" = some false := by decide +kernel
theorem ki_bt : kitB "bool" "tuple" = some false := by decide +kernel
theorem ki_nt : kitB "NoneType" "tuple" = some false := by decide +kernel
theorem ki_tl : kitB "tuple" "list" = some false := by decide +kernel
theorem ki_ll : kitB "list" "list" = some true := by decide +kernel
theorem ki_il : kitB "int" "list" = some false := by decide +kernel
theorem ki_bl : kitB "bool" "list" = some false := by decide +kernel
theorem ki_nl : kitB "NoneType" "list" = some false := by decide +kernel
theorem ki_tb : kitB "tuple" "bool" = some false := by decide +kernel
theorem ki_lb : kitB "list" "bool" = some false := by decide +kernel
theorem ki_ib : kitB "int" "bool" = some false := by decide +kernel
theorem ki_bb : kitB "bool" "bool" = some true := by decide +kernel
theorem ki_nb : kitB "NoneType" "bool" = some false := by decide +kernel
theorem ki_ti : kitB "tuple" "int" = some false := by decide +kernel
theorem ki_li : kitB "list" "int" = some false := by decide +kernel
theorem ki_ii : kitB "int" "int" = some true := by decide +kernel
theorem ki_bi : kitB "bool" "int" = some true := by decide +kernel
theorem ki_ni : kitB "NoneType" "int" = some false := by decide +kernel
/-- None, a truth value, an int -/
def D.leaf : D → Bool
  | .non => true
  | .bl _ => true
  | .int _ => true
  | _ => false
/-- such, in tuples at most n deep -/
def TI : Nat → D → Prop
  | 0, d => d.leaf = true
  | n + 1, d => d.leaf = true ∨ ∃ ds, d = .tup ds ∧ ds.length ≤ 100000 ∧ ∀ x ∈ ds, TI n x
theorem ti_pair {n : Nat} {p : Int × Int} : TI (n + 1) (dP p) := .inr ⟨_, rfl, Nat.le_of_ble_eq_true rfl, fun x hx => by
  rcases List.mem_cons.mp hx with e | hx
  · rw [e]; cases n <;> first | rfl | exact .inl rfl
  · rw [List.mem_singleton.mp hx]; cases n <;> first | rfl | exact .inl rfl⟩
theorem ti_leaf {n : Nat} {d : D} (h : d.leaf = true) : TI n d := by cases n <;> first | exact h | exact .inl h
section
variable {X : Cx} {cs : List C} {a b c : Expr} {pos : Pos} {d : D}
theorem leaf_eq {K : PySem.W.Frag} (hd : d.leaf = true) : ∀ x y H (Q : VK), Rep K H x d → Rep K H y d → Q (.bl true) H → rEq x y H Q := fun x y H Q rx ry q => by
  cases rx with
  | non => cases ry; exact ⟨rfl, q⟩
  | bl b => cases ry; exact ⟨rfl, by rw [decide_eq_true rfl]; exact q⟩
  | int b => cases ry; exact ⟨rfl, by rw [decide_eq_true rfl]; exact q⟩
  | _ => cases hd
theorem ex_eqSelf (hd : d.leaf = true) (ha : EB X cs a d) (hb : EB X cs b d) : EX X cs (.Compare a [.Eq] [b] pos) (.bl true) := eb_cmp op_eq ha hb (nomark _) (fun _ => .bl _) (leaf_eq hd)
end
theorem filter_no {α : Type} {l : List α} : l.filter (fun _ => false) = [] := by
  induction l with
  | nil => rfl
  | cons x r ih => simp [List.filter_cons]
end DL

end
section
set_option maxHeartbeats 2000000
namespace DL
open PySem PySem.Spec L2
abbrev veB : List Value := [.type "ValueError", .type "Exception", .type "BaseException", .type "object"]
/-- an own error class x at Cl, over ValueError -/
structure ExF (K : PySem.W.Frag) (mg : Str → Option Value) (x : Str) (Cl : Addr) : Prop where
  q : PySem.W.excIn K Cl veB "ValueError.__new__" = true
  g : mg x = some (.ref Cl)
  k : PySem.W.keepIn K (.ref Cl) = true
  b : PySem.W.subIn K (.ref Cl) (.type "BaseException") = some true
  t : PySem.W.typeIn K (.ref Cl) = some (.type "type")
/-- a text of at most n signs comes out -/
def ES (X : Cx) (cs : List C) (e : Expr) (n : Nat) : Prop := ∀ (He Hb H0 H : Hp) (σ : St) (Q : VK), SR X.K He Hb H0 H σ cs → (∀ (y : Str) H' H0', Grow H0 H H0' H' → y.length ≤ n → Q (.str y) H') → wE X e σ H Q
def EJ (X : Cx) (cs : List C) (es : List Expr) (n : Nat) : Prop := ∃ ts, PJ X es ts ∧ ∀ (acc : Str) (He Hb H0 H : Hp) (σ : St) (Q : Str → Hp → Prop), SR X.K He Hb H0 H σ cs → acc.length + n ≤ 16777216 → (∀ (y : Str) H' H0', Grow H0 H H0' H' → y.length ≤ acc.length + n → Q y H') → tJs ts acc σ H Q
section
variable {X : Cx} {cs : List C} {e : Expr} {es : List Expr} {pos p : Pos} {n m : Nat} {i : Int}
theorem es_c {x : Str} {j : Nat} (h : x.length ≤ n) : ES X cs (.Constant (.str x) j pos) n := fun He Hb H0 H σ Q s q => wE_of pe_str (q x H H0 (Grow.refl s.i) h)
theorem es_fmt (h : EB X cs e (.int i)) (hz : i.natAbs < 2 ^ 200) : ES X cs (.FormattedValue e (-1) none pos) 1921 := fun He Hb H0 H σ Q s q =>
  wE_of (pe_fmt pe_w) (h _ _ _ _ _ _ s fun v H1 H01 g r => by
    cases r
    have hl : i.natAbs.log2 < 1920 := by
      by_cases h0 : i.natAbs = 0
      · rw [h0]; decide
      · exact (Nat.log2_lt h0).mpr (Nat.lt_of_lt_of_le hz (Nat.pow_le_pow_right (by decide) (by decide)))
    refine .inr ⟨i, rfl, hl, q _ _ _ g ?_⟩
    have := int_text_length_le (k := 1920) (by decide) hl
    show (Str.ofString (toString i)).length ≤ 1921
    rw [ofString_length]
    exact this)
theorem ej_nil : EJ X cs [] 0 := ⟨[], .nil, fun acc He Hb H0 H σ Q s _ q => q acc H H0 (Grow.refl s.i) (Nat.le_refl _)⟩
theorem ej_cons (h : ES X cs e n) (hr : EJ X cs es m) : EJ X cs (e :: es) (n + m) := by
  obtain ⟨ts, hj, hr⟩ := hr
  refine ⟨wE X e :: ts, .cons pe_w hj, fun acc He Hb H0 H σ Q s hz q => ?_⟩
  refine h _ _ _ _ _ _ s fun y H1 H01 g hy => ⟨y, rfl, ?_, ?_⟩
  · rw [strLen_append]; exact Nat.le_trans (by omega) (by decide : 16777216 ≤ sizeLine)
  · refine hr _ _ _ _ _ _ _ (s.grow g) (by rw [strLen_append]; omega) fun z H2 H02 g2 hz2 => q z _ _ (g.trans g2) ?_
    rw [strLen_append] at hz2
    omega
theorem es_join {e1 e2 : Expr} (h : EJ X cs (e1 :: e2 :: es) n) (hn : n ≤ 1000000 := by decide) : ES X cs (.JoinedStr (e1 :: e2 :: es) pos) n := fun He Hb H0 H σ Q s q => by
  obtain ⟨ts, hj, hr⟩ := h
  refine wE_of (pe_joined hj) (hr _ _ _ _ _ _ _ s (by show 0 + n ≤ _; omega) fun y H' H0' g hy => q y _ _ g ?_)
  have : Str.empty.length = 0 := rfl
  omega
theorem DEnd.one {He Hb H0 : Hp} {F : DE} {E : Ends} (q : DEnd X He Hb H0 F E) : L2N.Takes X (WC X.K He Hb H0 F.ex) := q.ex
open PyProof.Rows SkE in
theorem pmkN {C : Addr} {bmB : List Value} {B nid iid : String} {x : Str} {a : Expr} {ta : TE} {p pos' : Pos} (Fx : ExcBaseFacts B nid iid bmB) (q : PySem.W.excIn X.K C bmB nid = true) (gC : X.mg x = some (.ref C)) (kC : PySem.W.keepIn X.K (.ref C) = true) (r : Raises X (.ref C)) (hg : Gl X x)
    (he : PE X a ta) (hs : starEach [a] X.env = (false, eval a X.env) :: starEach [] X.env) (hdb : (x == ("__debug__" : Str)) = false) : L2N.PMk X (.Call (.Name x p) [a] [] pos') (fun σ H Q => ta σ H fun _ H1 => Q (.ref C) none H1) := fun pins s σ H Q I h => by
  refine wpAny_Call_Name_kw (ld_glob I hg gC (PySem.W.callWith_K (h₀ := X.base) I.ok.mod.kin kC ?_ hs (by rfl)) hdb)
  rw [hs]
  refine Calls.spliced_cons (thn (he.run pins s σ H _ I h) fun u s1 hu => ?_)
  obtain ⟨v, H1, I1, r1, q1⟩ := hu
  obtain ⟨bm, N, nm, qn, bs, hdct, sn, sub, ab, col, dd, k0, k1, k2, k3, k5, mN, hC, hN, hni, T⟩ := exc_obj I1.kIn q
  refine Calls.spliced_nil ⟨I1.kIn, wpAny_call_exc_subT (rest := [u]) Fx T hC hN hni (fun h' e hm => L2N.mk_of I1 hm r q1 (I1.hok.gone hm.new)) ?_⟩
  show 1 ≤ sizeLine
  rw [sizeLine_eq]
  omega
theorem sx_raise {F : DE} {x : Str} {Cl : Addr} {pos' : Pos} (hcl : X.calm = true) (Ex : ExF X.K X.mg x Cl) (hs : ES X cs e n) (h : F.ex Cl cs) (hg : Gl X x := by rfl) (hpl : Pl e := by intro _ _; rfl) (hdb : (x == ("__debug__" : Str)) = false := by decide) :
    SX X cs (.Raise (some (.Call (.Name x p) [e] [] pos)) none pos') F := fun He Hb H0 H σ E s q =>
  wS_of (L2N.ps_raise hcl q.ex (pmkN PySem.F.excBase_ValueError Ex.q Ex.g Ex.k (raises_own Ex.b Ex.t) hg pe_w (hpl _ _) hdb)) (hs _ _ _ _ _ _ s fun y H1 H01 g _ => ⟨Cl, cs, H01, rfl, rfl, g.b, s.grow g, h⟩)

/-! a value, or an own error -/
def EXR (X : Cx) (cs : List C) (e : Expr) (R : D → Prop) (Pe : Addr → Prop) : Prop := ∀ (He Hb H0 H : Hp) (σ : St) (Q : VK), SR X.K He Hb H0 H σ cs → L2N.Takes X (WC X.K He Hb H0 fun Cl cs' => cs' = cs ∧ Pe Cl) → (∀ v d H' H0', Grow H0 H H0' H' → Rep X.K H0' v d → R d → Q v H') → wE X e σ H Q
theorem exr_of {d : D} (h : EX X cs e d) : EXR X cs e (fun d' => d' = d) fun _ => False := fun He Hb H0 H σ Q s _ q => h _ _ _ _ _ _ s fun v H' H0' g r => q v d H' H0' g r rfl
/-- what the callee lets out is the caller's at these slots -/
theorem sr_call {K : PySem.W.Frag} {He Hb H0 H H' H1 H01 : Hp} {σ : St} (s : SR K He Hb H0 H σ cs) (g : Grow H0 H H01 H1) (h : Same H1 H') : SR K He Hb H01 H' σ cs := s.grow ⟨g.b, g.i.trans h, g.h.trans h, g.n⟩
section
variable {k : Nat} {x : Str} {R : List D → (Out → Prop) → Prop} {ds : List D} {post : Out → Prop}
theorem exr_call (F : FnC X.prog X.w X.K X.mg X.base (L2N.CX X.prog X.w) k x R) (hr : Room k X.A) (ha : EA X cs (e :: es) ds) (h : R ds post) (hg : Gl X x := by rfl) (hdb : (x == ("__debug__" : Str)) = false := by decide) (hs : Pl e := by intro _ _; rfl)
    (hpl : (backTo pos (starEach es X.env)).any (·.1) = false := by rfl) : EXR X cs (.Call (.Name x p) (e :: es) [] pos) (fun d => post (.ret d)) (fun Cl => post (.exc Cl)) := fun He Hb H0 H σ Q s tk q => by
  obtain ⟨f, fd, ps, ok, hm, hk, hb⟩ := F.ex
  exact wE_of (pe_callS ok hr hg hm hk hb (fun σ => L2N.passAt tk σ) pa_w hdb (hs _ _) hpl) (ha _ _ _ _ _ _ s fun vs H1 H01 g1 r1 => ⟨H01, ds, post, g1.i, r1, h, fun d' v H2 H02 e g2 r2 => q _ _ _ _ (g1.trans g2) r2 e, fun Cl H' e hsm => ⟨Cl, cs, H01, rfl, rfl, g1.b, sr_call s g1 hsm, rfl, e⟩⟩)
/-- the rule for a method whose error is wished at the slots -/
def tMethX (Cl : Addr) (m : Str) (sp : Sp) (W : WX) (ta : TE) (t : TA) : TE := fun σ H Q => ta σ H fun x H1 => ∃ a dx fs, x = .ref a ∧ H1 a = some (.ins Cl dx fs) ∧ fs.lookup m = none ∧ t σ H1 fun vs H2 => sp (x :: vs) H2 Q (WE W σ)
theorem exr_meth {Cl : Addr} {fs : List (Str × D)} {m : Str} {o : Expr} {apos : Pos} (hp : ∀ W, L2N.Takes X W → PE X (.Call (.Attribute o m apos) es [] pos) (tMethX Cl m (spD X.K R) W (wE X o) (wA X es))) (ho : EX X cs o (.obj Cl fs)) (hl : fs.lookup m = none)
    (ha : EA X cs es ds) (h : R (.obj Cl fs :: ds) post) : EXR X cs (.Call (.Attribute o m apos) es [] pos) (fun d => post (.ret d)) (fun Cl => post (.exc Cl)) := fun He Hb H0 H σ Q s tk q =>
  wE_of (hp _ tk) (ho _ _ _ _ _ _ s fun x H1 H01 g1 r1 => by
    cases r1 with
    | obj h1 r1 =>
      refine ⟨_, _, _, rfl, g1.i _ _ h1, r1.nolook hl, ?_⟩
      refine ha _ _ _ _ _ _ (s.grow g1) fun vs H2 H02 g2 r2 => ?_
      exact ⟨H02, _, post, g2.i, .cons (.obj (g2.b _ _ h1) (r1.mono g2.b)) r2, h, fun d' v H3 H03 e g3 r3 => q _ _ _ _ ((g1.trans g2).trans g3) r3 e, fun Cl H' e hsm => ⟨Cl, cs, H02, rfl, rfl, (g1.trans g2).b, sr_call s (g1.trans g2) hsm, rfl, e⟩⟩)
end
theorem sx_exprX {F : DE} {R : D → Prop} {Pe : Addr → Prop} (h : EXR X cs e R Pe) (k : ∀ d, R d → F.nx cs) (kx : ∀ Cl, Pe Cl → F.ex Cl cs) (hs : swapsWith e none pos.line X.env = pure false := by rfl) : SX X cs (.Expr e pos) F := fun He Hb H0 H σ E s q =>
  wS_of (ps_expr pe_w hs) (h _ _ _ _ _ _ s (q.ex.imp fun _ _ _ _ ⟨Cl, cs', H0', e1, e2, e3, e4, e5, z⟩ => ⟨Cl, cs', H0', e1, e2, e3, e4, by rw [e5]; exact kx Cl z⟩) fun v d H1 H01 g r z => q.nx _ _ _ _ g.b (s.grow g) (k d z))
theorem sx_retX {F : DE} {R : D → Prop} {Pe : Addr → Prop} (h : EXR X cs e R Pe) (k : ∀ d, R d → F.rt d) (kx : ∀ Cl, Pe Cl → F.ex Cl cs) : SX X cs (.Return (some e) pos) F := fun He Hb H0 H σ E s q =>
  wS_of (ps_ret pe_w) (h _ _ _ _ _ _ s (q.ex.imp fun _ _ _ _ ⟨Cl, cs', H0', e1, e2, e3, e4, e5, z⟩ => ⟨Cl, cs', H0', e1, e2, e3, e4, by rw [e5]; exact kx Cl z⟩) fun v d H1 H01 g r z => q.rt _ _ _ _ (s.gr.trans g) r (k d z))
theorem sx_setX {F : DE} (i : Nat) {x : Str} {pos' : Pos} {R : D → Prop} {Pe : Addr → Prop} (hN : X.N.Nodup) (h : EXR X cs e R Pe) (k : ∀ d, R d → F.nx (cs.set i (.sh d))) (kx : ∀ Cl, Pe Cl → F.ex Cl cs) (hi : X.N[i]? = some x := by rfl) (hx : Loc X.env.scope x := by first | exact Or.inl rfl | exact Or.inr rfl) (hs : swapsWith e (some (.Name x pos')) pos.line X.env = pure false := by rfl)
    (hf : X.fn x = true ∨ X.env.scope.names.lookup x = some .local := by first | exact .inl rfl | exact .inr rfl) : SX X cs (.Assign [.Name x pos'] e pos) F := fun He Hb H0 H σ E s q =>
  wS_of (ps_set hN hi hx pe_w hs hf) (h _ _ _ _ _ _ s (q.ex.imp fun _ _ _ _ ⟨Cl, cs', H0', e1, e2, e3, e4, e5, z⟩ => ⟨Cl, cs', H0', e1, e2, e3, e4, by rw [e5]; exact kx Cl z⟩) fun v d H1 H01 g r z => q.nx _ _ _ _ g.b ((s.grow g).set r) (k d z))
end
end DL

end
section
set_option maxHeartbeats 2000000
namespace DL
open PySem PySem.Spec L2
/-- o.m(..) is read as an attribute's call -/
abbrev MF (X : Cx) (o : Expr) (m : Str) (apos pos : Pos) (es : List Expr) (pl : Sem Bool) : Prop :=
  eval (.Call (.Attribute o m apos) es [] pos) X.env = (do let ov ← eval o X.env; standAt apos.atName; let (f, first) ← holding [ov] (getMethod ov m pl); callWith pos f first (backTo pos (starEach es X.env)) (backToKw pos (keywordEach [] X.env)))
theorem pe_methX {X : Cx} {e o : Expr} {es : List Expr} {m : Str} {apos pos : Pos} {Cl f : Addr} {fd : FuncData} {ps : List Str} {sp : Sp} {k : Nat} {pl : Sem Bool} (c : Cls X.K Cl) (hm : Meth X.K Cl m f) (F : FnOk X.prog X.w X.K X.mg X.base (L2N.CX X.prog X.w) k f fd ps sp)
    (hr : Room k X.A) (hb : Binds X.K fd ps []) (hs : Pl e := by intro _ _; rfl) (hpl : (backTo pos (starEach es X.env)).any (·.1) = false := by rfl) (ht : MF X o m apos pos (e :: es) pl := by rfl) :
    ∀ W, L2N.Takes X W → PE X (.Call (.Attribute o m apos) (e :: es) [] pos) (tMethX Cl m sp W (wE X o) (wA X (e :: es))) := fun W tk => ⟨fun pins s σ H Q I h => by
  refine PySem.W.methodCall_KW (pl := pl) (thn (pe_w.run pins s σ H _ I h) ?_) ht
  rintro u s1 ⟨x, H1, I1, rx, a, dx, fs, ex, ea, l, q⟩
  subst ex
  obtain rfl : u = Value.ref a := rx
  refine getmeth_ok I1 ea c hm l (PySem.W.callWith_K (first := [.ref a]) (h₀ := X.base) I.ok.mod.kin hm.kp (thn (pa_w.run pos pins s1 σ H1 _ I1 q) ?_) (hs _ _) hpl)
  rintro us s2 ⟨vs, H2, I2, r, q2⟩
  refine ⟨I2.kIn, run_fnS (us := .ref a :: us) (vs := .ref a :: vs) (E := WE W) F hr hb (L2N.passAt tk σ) I2 (.cons rfl r) q2⟩⟩
/-! count of truth values -/
theorem countIn_b (k : Bool) : ∀ bs : List Bool, PySem.Spec.countIn (.bool k) (bs.map PyData.bool) = ((bs.count k : Nat) : Int)
  | [] => rfl
  | b :: r => by
    rw [List.map_cons, PySem.Spec.countIn, countIn_b k r, List.count_cons]
    simp only [PySem.Spec.same]
    cases b <;> cases k <;> simp <;> omega
theorem dpB {K : PySem.W.Frag} {H : Hp} : ∀ bs : List Bool, DpAll K H (bs.map V.bl) (bs.map PyData.bool)
  | [] => .nil
  | b :: r => .cons (.bl b) (dpB r)
def rCntB (K : PySem.W.Frag) : V → List V → Hp → VK → Prop := fun x xs H Q => ∃ (p : Addr) (bs : List Bool) (k : Bool), x = .ref p ∧ xs = [.bl k] ∧ SqL K H p (bs.map V.bl) ∧ Q (.int (bs.count k : Nat)) H
theorem mt_countB {X : Cx} : MtR X "list.count" (rCntB X.K) := by
  intro pins s σ H x xs v us Q I rx rxs h
  obtain ⟨p, bs, k, rfl, rfl, hs, q⟩ := h
  cases rx
  obtain ⟨u, rfl, ru⟩ := rxs.one
  obtain rfl : u = Value.bool k := ru
  obtain ⟨its, rv, hl, hlen⟩ := I.list hs
  obtain ⟨as, ra⟩ := Dp.readsAll I _ _ _ (dpB bs) rv
  refine PyProof.Rows.count_list_bools hl.isList ra (by
    rw [List.all_map]
    exact List.all_eq_true.mpr fun b _ => rfl) ?_
  rw [countIn_b]
  exact ⟨.int (bs.count k : Nat), H, I.tok _, ⟨_, rfl⟩, q⟩
end DL

end
section
set_option maxHeartbeats 2000000
namespace DL
open PySem PySem.Spec L2
/-! a def that is called while an own error, its argument, is handled -/
structure FnE (P : Program) (w : World) (K : PySem.W.Frag) (mg : Str → Option Value) (base : Heap) (k : Nat) (f : Addr) (fd : FuncData) (ps : List Str) (sp : Addr × Obj → List V → Hp → VK → Prop) : Prop where
  len : ∀ p vs H Q, sp p vs H Q → vs.length = ps.length
  run : ∀ (A : Around) (outer : List Env) (s : Shared) (H : Hp) (args : Args) (us : List Value) (vs : List V) (Q : VK) (p : Addr × Obj), L2H.RoomH k A → L2H.PinOk outer H s p →
    Env0 P w K mg base A outer s H → BindsTo s fd args (ps.zip us) → Vals vs us → sp p vs H Q → codeAny (model P w) A (.call (.ref f) args) (CR CX0 outer P w H s Q E0) s
section
variable {P : Program} {w : World} {K : PySem.W.Frag} {mg : Str → Option Value} {base : Heap}
theorem fn_e {x qual : Str} {st : Stmt} {f : Addr} {fd : FuncData} {N ps : List Str} {k : Nat} {sp : Addr × Obj → List V → Hp → VK → Prop} (F : Fun K x qual st f fd) (S : FnScope N ps (defScope st)) (len : ∀ p vs H Q, sp p vs H Q → vs.length = ps.length)
    (hb : ∀ (X : Cx) (H : Hp) (vs : List V) (Q : VK) (p : Addr × Obj), (∃ cdv A outer s, X = L2H.cxH CX0 P w K mg base N qual (defScope st) f cdv A outer s H E0 p) → L2H.RoomH k X.A → sp p vs H Q →
      wSs X (defBody st) { nx := fun _ H' => Q .non H', rt := Q } (L2.start N vs) H) : FnE P w K mg base (k + 1) f fd ps sp := by
  obtain ⟨oc, od, kV, doc, pm, an, cdv, ct, osl, rfl, lk, hcd⟩ := F.ex
  refine ⟨len, ?_⟩
  intro A outer s H args us vs Q p hr hpin e0 bt r hsp
  have kx : K.In s.heap := e0.mod.kin.keeps fun b o e => (e0.bs b o e).1
  have nl : s.heap.NoLimit := e0.mod.nolimit.keeps fun b o e => (e0.bs b o e).1
  refine codeAny_call_function hr.depth (kx _ _ lk) rfl S.co S.gen rfl (PySem.W.codeRec_of kx hcd) (bt _ _ _ _ ?_)
  refine wpAny_newFunctionEnv_cells S.kind ?_ fun env he s1 ic => ?_
  · rintro ⟨n, v⟩ hy
    rcases S.par n (List.of_mem_zip hy).1 with z | z
    · exact .inl z
    · exact .inr ⟨z, PySem.W.cellsFrom_some _ _ _ (.inl z)⟩
  · subst he
    refine ⟨nl.keeps ic.toInCall.keep, codeAny_func ?_⟩
    have J := L2H.inv_startH (CX := CX0) (P := P) (w := w) (mg := mg) (E := E0) S hpin e0 (len _ _ _ _ hsp) r ic
    refine wpAny_mono (hb _ H vs Q p ⟨_, _, _, _, rfl⟩ (hr.deeper _) hsp [] s1 J) ?_ fun e s' he => he
    intro fl s' hs
    cases fl with
    | ret u => obtain ⟨v, σ', H', J', rv, q⟩ := hs; exact ⟨v, H', J'.os, J'.bare, J'.base, J'.hok, rv, q⟩
    | next => obtain ⟨σ', H', J', q⟩ := hs; exact ⟨.non, H', J'.os, J'.bare, J'.base, J'.hok, rfl, q⟩
    | brk => obtain ⟨_, _, _, z⟩ := hs; exact z.elim
    | cont => obtain ⟨_, _, _, z⟩ := hs; exact z.elim
/-- over data -/
def spE (K : PySem.W.Frag) (R : Addr × Obj → List D → (D → Prop) → Prop) : Addr × Obj → List V → Hp → VK → Prop := fun p vs H Q => ∃ (ds : List D) (post : D → Prop), RepA K H vs ds ∧ R p ds post ∧ ∀ d v H' H0', post d → Grow H H H0' H' → Rep K H0' v d → Q v H'
theorem fn_okE {x qual : Str} {st : Stmt} {f : Addr} {fd : FuncData} {N ps : List Str} {k : Nat} {R : Addr × Obj → List D → (D → Prop) → Prop} (F : Fun K x qual st f fd) (S : FnScope N ps (defScope st)) (hl : ∀ p ds post, R p ds post → ds.length = ps.length) (hps : ps.length ≤ N.length)
    (hb : ∀ (X : Cx) (p : Addr × Obj) ds post, (∃ cdv A outer s H, X = L2H.cxH CX0 P w K mg base N qual (defScope st) f cdv A outer s H E0 p) → L2H.RoomH k X.A → R p ds post → SXs X (ent N.length ds) (defBody st) { nx := fun _ => post .non, rt := post }) : FnE P w K mg base (k + 1) f fd ps (spE K R) := by
  refine fn_e F S (fun p vs H Q h => ?_) ?_
  · obtain ⟨ds, post, r, h, _⟩ := h
    rw [r.len]
    exact hl p ds post h
  · rintro X H vs Q p ⟨cdv, A, outer, s, rfl⟩ hr ⟨ds, post, r, h, k1⟩
    refine hb _ p ds post ⟨_, _, _, _, _, rfl⟩ hr h _ _ _ _ _ _ (sr_start (Same.refl _) r (by rw [hl p ds post h]; exact hps)) ⟨fun cs H0' H' σ' e s' z => k1 .non .non H' H0' z s'.gr .non, fun v d H0' H' g r z => k1 d v H' H0' z g r, fun _ _ _ _ _ _ z => z.elim, fun _ _ _ _ _ _ z => z.elim, takes_no⟩
end
section
variable {X : Cx} {cs : List C} {a b e : Expr} {es : List Expr} {pos p np pos' : Pos} {d : D} {ds : List D} {F : DE}
/-- it is called in the suite -/
theorem ex_callE {k : Nat} {f : Addr} {fd : FuncData} {ps : List Str} {x : Str} {R : Addr × Obj → List D → (D → Prop) → Prop} {q : Addr × Obj} (Fn : FnE X.prog X.w X.K X.mg X.base k f fd ps (spE X.K R)) (hr : L2H.RoomH k X.A) (hq : q ∈ X.pn) (hm : X.mg x = some (.ref f)) (hk : PySem.W.keepIn X.K (.ref f) = true) (hb : Binds X.K fd ps [])
    (ha : EA X cs (e :: es) ds) (h : R q ds (fun d' => d' = d)) (hd : d.scal = true := by rfl) (hg : Gl X x := by rfl) (hdb : (x == ("__debug__" : Str)) = false := by decide) (hs : Pl e := by intro _ _; rfl) (hpl : (backTo pos (starEach es X.env)).any (·.1) = false := by rfl) :
    EX X cs (.Call (.Name x p) (e :: es) [] pos) d := fun He Hb H0 H σ Q s k1 pins st I => by
  refine wpAny_Call_Name_kw (ld_glob I hg hm ?_ hdb)
  refine PySem.W.callWith_K (h₀ := X.base) I.ok.mod.kin hk (thn (ha _ _ _ _ _ (fun vs H' => ∃ H0', Grow H0 H H0' H' ∧ RepA X.K H0' vs ds) s (fun vs H' H0' g r => ⟨H0', g, r⟩) pos pins st I) ?_) (hs _ _) hpl
  rintro us s1 ⟨vs, H1, I1, r, H01, g1, r1⟩
  refine ⟨I1.kIn, ?_⟩
  have sp1 : spE X.K R q vs H1 Q := ⟨ds, _, r1.mono g1.i, h, fun d' v H2 H02 e g2 r2 => by
    subst e
    exact k1 v H2 H01 ⟨g1.b, g1.i.trans g2.h, g1.h.trans g2.h, g1.n⟩ (r2.scal hd)⟩
  have hl : us.length = ps.length := by rw [← r.length]; exact Fn.len _ _ _ _ sp1
  have bt := hb s1 us I1.kIn (by rw [List.append_nil]; exact hl)
  rw [List.append_nil] at bt
  have P1 := I1.pin q (List.mem_append_left _ hq)
  have hpin : L2H.PinOk X.stack H1 s1 q := ⟨P1.1, P1.2.1, fun hm => (List.mem_cons.mp (I1.stkSub q.1 hm)).elim P1.2.2.1 P1.2.2.2.1, P1.2.2.2.2⟩
  refine wpAny_call (codeAny_mono (Fn.run X.A X.stack s1 H1 ⟨us, []⟩ us vs Q q hr hpin I1.env0 bt r sp1) ?_)
  intro rs s' hq'
  cases rs with
  | error e => exact False.elim hq'
  | ok fl =>
    cases fl with
    | ret u => exact I1.after hq'
    | next => exact False.elim hq'
    | brk => exact False.elim hq'
    | cont => exact False.elim hq'
/-- isinstance of the handled error -/
theorem call_isP {Dc x1 : Addr} {oe : Obj} (hc : ExcC X.K Dc) (hp : (x1, oe) ∈ X.pn) (hz : L2N.Zn (.ref Dc) none oe) (hf : ∃ vs, oe.data = .fields vs) : CallR X (.builtin "isinstance") (rIsE X.K Dc x1) := by
  intro pins s σ H xs us Q I r h
  obtain ⟨c, cv, bb, rfl, hcv, ek, q⟩ := h
  obtain ⟨u1, u2, rfl, r1, r2⟩ := vals2 r
  obtain rfl : u1 = Value.ref x1 := r1
  obtain rfl := hcv _ r2
  have hget := (I.pin (x1, oe) (List.mem_append_left _ hp)).1
  obtain ⟨vs, hv⟩ := hf
  have J : PySem.W.InstAt s.heap x1 oe Dc none := by
    cases oe with
    | mk c1 d1 dt sl =>
      obtain ⟨z1, z2, _⟩ := hz
      dsimp only at z1 z2 hv
      subst z1 z2 hv
      exact ⟨hget, rfl, rfl, trivial⟩
  have kx := PySem.W.handS_kitx_exc (x := x1) (ox := oe) hc.hg hc.hk hc.hs hc.hd hc.ha hc.hn hc.ht hc.hm
  exact PySem.W.kia_one kx I.kIn J ek (fun z => nomatch z) fun tk => ⟨.bl bb, H, I.kept (t' := tk) fun _ _ z => z, rfl, q⟩
theorem ex_isE {Dc x1 : Addr} {oe : Obj} {x : Str} {Cl : Addr} {bb : Bool} {p2 : Pos} (hm : X.mg "isinstance" = none) (hc : ExcC X.K Dc) (hp : (x1, oe) ∈ X.pn) (hz : L2N.Zn (.ref Dc) none oe) (hf : ∃ vs, oe.data = .fields vs) (ha : EB X cs a (.opq x1)) (hx : X.mg x = some (.ref Cl)) (hk : PySem.W.kitOne X.K (.ref Dc) (.ref Cl) = some bb)
    (hg : Gl X "isinstance" := by rfl) (hgx : Gl X x := by rfl) (hdb : (x == ("__debug__" : Str)) = false := by decide) (hs : Pl a := by intro _ _; rfl) : EX X cs (.Call (.Name "isinstance" p) [a, .Name x p2] [] pos) (.bl bb) := fun He Hb H0 H σ Q s q =>
  wE_of (pe_callB (call_isP hc hp hz hf) hg hm (by decide +kernel) (pa_cons pe_w (pa_cons (pe_glob (v := .ref Cl) hgx hx rfl hdb) pa_nil) (hs _ _)) (by decide) (by decide) (hs _ _) rfl) (ha _ _ _ _ _ _ s fun v H1 H01 g1 r1 => by
    cases r1
    exact ⟨.ref Cl, .ref Cl, bb, rfl, fun u r => r, hk, q _ _ _ g1 (.bl _)⟩)
theorem ex_isEB {Dc x1 : Addr} {oe : Obj} {x : Str} {T : String} {bb : Bool} {p2 : Pos} (hm : X.mg "isinstance" = none) (hc : ExcC X.K Dc) (hp : (x1, oe) ∈ X.pn) (hz : L2N.Zn (.ref Dc) none oe) (hf : ∃ vs, oe.data = .fields vs) (ha : EB X cs a (.opq x1)) (hx : X.mg x = none) (hv : bootBuiltins x = some (.type T)) (hk : PySem.W.kitOne X.K (.ref Dc) (.type T) = some bb)
    (hg : Gl X "isinstance" := by rfl) (hgx : Gl X x := by rfl) (hn : x ≠ "__name__" := by decide) (hdb : (x == ("__debug__" : Str)) = false := by decide) (hs : Pl a := by intro _ _; rfl) : EX X cs (.Call (.Name "isinstance" p) [a, .Name x p2] [] pos) (.bl bb) := fun He Hb H0 H σ Q s q =>
  wE_of (pe_callB (call_isP hc hp hz hf) hg hm (by decide +kernel) (pa_cons pe_w (pa_cons (pe_bltn (v := .ty T) hgx hx hv rfl hn hdb) pa_nil) (hs _ _)) (by decide) (by decide) (hs _ _) rfl) (ha _ _ _ _ _ _ s fun v H1 H01 g1 r1 => by
    cases r1
    exact ⟨.ty T, .type T, bb, rfl, fun u r => r, hk, q _ _ _ g1 (.bl _)⟩)
/-- xs.count(True) -/
theorem repB_of {K : PySem.W.Frag} {H : Hp} : ∀ {bs : List Bool} {vs : List V}, RepA K H vs (bs.map D.bl) → vs = bs.map V.bl
  | [], _, .nil => rfl
  | b :: r, _, .cons (.bl _) t => by rw [repB_of t]; rfl
theorem ex_countB {o : Expr} {apos : Pos} {bs : List Bool} {k : Bool} (ho : EB X cs o (.lst (bs.map D.bl))) (ha : EB X cs e (.bl k))
    (hp : PE X (.Call (.Attribute o "count" apos) [e] [] pos) (tBM X.K "list" (rCntB X.K) (wE X o) (tCons (wE X e) tNil))) : EX X cs (.Call (.Attribute o "count" apos) [e] [] pos) (.int (bs.count k : Nat)) := fun He Hb H0 H σ Q s q =>
  wE_of hp (ho _ _ _ _ _ _ s fun x H1 H01 g1 r1 => by
    cases r1 with
    | lst hl r =>
      have e := repB_of r
      subst e
      refine ⟨.inl ⟨rfl, _, SqL.of hl⟩, ?_⟩
      refine ha _ _ _ _ _ _ (s.grow g1) fun y H2 H02 g2 r2 => ?_
      cases r2
      exact ⟨_, bs, k, rfl, rfl, SqL.of (g2.h _ _ hl), q _ _ _ (g1.trans g2) (.int _)⟩)
/-- try: body, except x as n: suite; the clause takes every error that the body lets out -/
theorem takes0N {X : Cx} : L2N.Takes X fun _ _ _ _ => False := fun _ _ ⟨_, _, _, _, _, _, _, _, _, _, _, _, _, _, _, _, z⟩ => z.elim
theorem sx_tryAs {i : Nat} {x n : Str} {c : Value} {Ex : Addr → Prop} {body suite : List Stmt} {b₀ : Stmt} (hN : X.N.Nodup) (hc : Names X x c)
    (hb : ∀ pn xe, SXs (X.tr pn xe) cs body { F with ex := fun Cl cs' => cs' = cs ∧ Ex Cl }) (hx : ∀ Cl, Ex Cl → PySem.W.exmOne X.K (.ref Cl) c = some true)
    (hsu : ∀ Cl, Ex Cl → ∀ (x1 : Addr) (oe : Obj) (pn : List (Addr × Obj)), L2N.Zn (.ref Cl) none oe → (∃ vs, oe.data = .fields vs) → SXs (X.suite x1 ((x1, oe) :: pn)) (cs.set i (.sh (.opq x1))) (b₀ :: suite) { nx := fun cs' => F.nx (cs'.set i .any), rt := F.rt, bk := fun cs' => F.bk (cs'.set i .any), ct := fun cs' => F.ct (cs'.set i .any) })
    (hs : X.stack = X.env :: X.outer := by rfl) (hf : X.env.frame = some X.env.locals := by rfl) (hi : X.N[i]? = some n := by rfl) (hln : X.env.kindOf n = some .local := by rfl) :
    SX X cs (.Try body [.ExceptHandler (some (.Name x np)) (some n) (b₀ :: suite) pos'] [] [] pos) F := fun He Hb H0 H σ E s q => by
  refine wS_of (L2N.ps_try_as hs hf hN hi hln hc takes0N (tb := fun W D σ H => ∀ pn xe, L2N.Takes (X.tr pn xe) W → wSs (X.tr pn xe) body D σ H) (ts := fun x1 cls d D σ H => ∀ oe pn, L2N.Zn cls d oe → (∃ vs, oe.data = .fields vs) → wSs (X.suite x1 ((x1, oe) :: pn)) (b₀ :: suite) D σ H) (Wout := fun _ _ _ _ => False)
    (fun W pn xe tk _ => ⟨fun pins s σ H D I h => h pn xe tk pins s I⟩) (fun x1 oe cls d pn hz hf => ⟨fun pins s σ H D I h => h oe pn hz hf pins s I⟩)) ?_
  intro pn xe tk
  refine hb pn xe _ _ _ _ _ _ s ⟨q.nx, q.rt, q.bk, q.ct, tk.imp ?_⟩
  rintro cls d σ' H' ⟨Cl, cs', H0', rfl, rfl, e3, s', rfl, hE⟩
  refine ⟨true, hx Cl hE, fun _ x1 na => ?_, fun z => nomatch z⟩
  intro oe pn' hz hfv
  refine hsu Cl hE x1 oe pn' hz hfv _ _ _ _ _ _ (s'.set (.opq x1)) ⟨fun cs2 H2 H3 σ3 e2 s2 z => q.nx _ _ _ _ (e3.trans e2) (s2.none i) z, q.rt, fun cs2 H2 H3 σ3 e2 s2 z => q.bk _ _ _ _ (e3.trans e2) (s2.none i) z, fun cs2 H2 H3 σ3 e2 s2 z => q.ct _ _ _ _ (e3.trans e2) (s2.none i) z, takes_no⟩
end
end DL

end
section
set_option maxHeartbeats 2000000
namespace DL
open PySem PySem.Spec L2
/-! [elt for x in range(m) for y in .. if c] -/
def uA (X : Cx) (sc : Scope) (es : List Expr) : TA := fun σ H Q => BX X sc fun Y => wA Y es σ H Q
theorem pa_u {X : Cx} {sc : Scope} {es : List Expr} : BX X sc fun Y => PA Y es (uA X sc es) := fun s H Cl cl fp => ⟨fun pos pins s' _ _ _ I h => h s H Cl cl fp pos pins s' I⟩
theorem wipe2 {σ : St} {i j : Nat} {x : Option V} (h : i ≠ j) : wipe ((wipe σ [i, j]).set i x) [i, j] = wipe σ [i, j] := by
  show ((((σ.set j none).set i none).set i x).set j none).set i none = (σ.set j none).set i none
  rw [List.set_set, List.set_comm _ _ h, List.set_set, List.set_set]
section
variable {X : Cx} {cs : List C} {c : Expr} {i j : Nat} {sc : Scope} {elt iter a a1 : Expr} {K : PySem.W.Frag}
theorem tYes_if {σ : St} {H : Hp} {A B : Hp → Prop} (h : A H) : tYes σ H (fun b H3 => if b = true then A H3 else B H3) := by
  show (if true = true then A H else B H)
  rw [if_pos rfl]
  exact h
/-- the slots of an outer turn -/
abbrev oc (cs : List C) (i j x : Nat) : List C := (cs.set j .any).set i (.sh (.int x))
theorem sr_outer {He Hb H0 H : Hp} {σ : St} (s : SR K He Hb H0 H σ cs) (x : Nat) : SR K He Hb H0 H ((wipe σ [i, j]).set i (some (.int (0 + (x : Int))))) (oc cs i j x) := by
  have z := ((s.none j).none i).set (i := i) (v := .int (0 + (x : Int))) (d := .int x) (by rw [Int.zero_add]; exact .int _)
  have e : ((cs.set j C.any).set i C.any).set i (C.sh (.int x)) = oc cs i j x := by rw [List.set_set]
  rw [e] at z
  exact z
theorem sr_inner {He Hb H0 H : Hp} {σ : St} (s : SR K He Hb H0 H σ cs) {v : V} {d : D} (rv : Rep K H0 v d) : SR K He Hb H0 H ((wipe σ [j]).set j (some v)) (cs.set j (.sh d)) := by
  have z := (s.none j).set (i := j) (v := v) (d := d) rv
  have e : (cs.set j C.any).set j (C.sh d) = cs.set j (C.sh d) := by rw [List.set_set]
  rw [e] at z
  exact z
theorem ro_RL (hK : X.K = K) {m : Int} {B : Nat} (inner : Nat → List D) (fo : Nat → D → D) (fp : Nat → D → Bool) (ha : EB X cs a (.int m)) (hm : -1000000 ≤ m ∧ m < 1000000) (hpl : Pl a) (hij : i ≠ j) (hB : ∀ x, x < m.toNat → (inner x).length ≤ B) (hsz : (m.toNat + 1) * B < 1000000)
    (hit : ∀ x : Nat, x < m.toNat → BX X sc fun Y => EX Y (oc cs i j x) iter (.lst (inner x)))
    (ht : ∀ x : Nat, x < m.toNat → ∀ (y : Nat) (d : D), (inner x)[y]? = some d → BX X sc fun Y => TX Y ((oc cs i j x).set j (.sh d)) c (fp x d))
    (he : ∀ x : Nat, x < m.toNat → ∀ (y : Nat) (d : D), (inner x)[y]? = some d → fp x d = true → BX X sc fun Y => EX Y ((oc cs i j x).set j (.sh d)) elt (fo x d)) :
    RO K cs (tLc2 (iRng1 (wA X [a])) (gName i) tYes (iList K (uE X sc iter)) (gName j) (uT X sc c) (uE X sc elt) [i, j] [j]) ((List.range m.toNat).flatMap fun x => ((inner x).filter (fp x)).map (fo x)) := fun He Hb H0 H σ Q s q => by
  subst hK
  refine eab_cons ha eab_nil hpl _ _ _ _ _ _ s fun vs H1 H01 g r => ?_
  cases r with
  | cons r1 r =>
    cases r
    cases r1
    refine ⟨m, rfl, by omega, by omega, fun L hn => ?_⟩
    have s1 := s.grow g
    let out : Nat → List D := fun k => (List.range k).flatMap fun x => ((inner x).filter (fp x)).map (fo x)
    have outS : ∀ k, out (k + 1) = out k ++ ((inner k).filter (fp k)).map (fo k) := fun k => by
      show (List.range (k + 1)).flatMap _ = _
      rw [List.range_succ, List.flatMap_append]
      simp [out]
    have outL : ∀ k, k ≤ m.toNat → (out k).length ≤ k * B := by
      intro k
      induction k with
      | zero => intro _; simp [out]
      | succ k ih =>
        intro hk
        rw [outS, List.length_append, List.length_map, Nat.succ_mul]
        have h1 := ih (by omega)
        have h2 := List.length_filter_le (fp k) (inner k)
        have h3 := hB k (by omega)
        omega
    refine ⟨fun k n H' => n = m.toNat - k ∧ k ≤ m.toNat ∧ Mk1 X.K H01 H1 L (out k) H', ⟨m.toNat, by simp, Nat.zero_le _, by exact Mk1.start g.i hn⟩, ?_⟩
    rintro k n H' ⟨rfl, hk, mk⟩
    by_cases hlt : k < m.toNat
    · refine .inr ⟨hlt, fun H' => Mk1 X.K H01 H1 L (out (k + 1)) H', fun H' p => ⟨m.toNat - (k + 1), by omega, rfl, hlt, p⟩, ?_⟩
      rintro v H2 ⟨e1, e2⟩
      rw [e1, e2]
      refine ⟨wipe2 hij, ?_⟩
      refine tYes_if ?_
      obtain ⟨H0', acc, g1, h0, hL, r⟩ := mk
      have s2 := sr_outer (i := i) (j := j) (s1.grow g1) k
      intro sB HB ClB clB fpB
      refine hit k hlt sB HB ClB clB fpB _ _ _ _ _ _ s2 fun w H3 H03 g2 rw => ?_
      cases rw with
      | @lst b ws _ hw rw =>
        refine ⟨b, rfl, ⟨ws, SqL.of (g2.i _ _ hw)⟩, ?_⟩
        have s3 := s2.grow g2
        have gB := g1.trans g2
        have hL3 := g2.h _ _ hL
        have h03 := not_tup g2 h0 hL (fun xs z => by cases z)
        have o2z : ∀ t d, t < (inner k).length → (inner k)[t]? = some d → ((inner k).take (t + 1)).filter (fp k) = ((inner k).take t).filter (fp k) ++ (if fp k d = true then [d] else []) := fun t d _ hd => by
          rw [List.take_add_one, hd, List.filter_append]
          simp [List.filter_cons]
        refine ⟨fun t n H' => n = ws.length - t ∧ t ≤ ws.length ∧ ∃ H0' acc, Same H03 H0' ∧ Grow H01 H1 H0' H' ∧ H0' L = none ∧ H' L = some (.lst acc) ∧ RepA X.K H0' acc (out k ++ (((inner k).take t).filter (fp k)).map (fo k)), ⟨ws.length, by simp, Nat.zero_le _, H03, acc, Same.refl _, gB, h03, hL3, by simpa using r.mono g2.b⟩, ?_⟩
        rintro t n2 H4 ⟨rfl, htl, H04, acc4, e34, g4, h04, hL4, r4⟩
        have hb4 : SqL X.K H4 b ws := SqL.of (g4.i _ _ (e34 _ _ hw))
        have hwl := rw.len
        by_cases hlt2 : t < ws.length
        · refine .inr ⟨⟨ws, ws[t], hb4, by simp [hlt2]⟩, fun H' => ∃ H0' acc, Same H03 H0' ∧ Grow H01 H1 H0' H' ∧ H0' L = none ∧ H' L = some (.lst acc) ∧ RepA X.K H0' acc (out k ++ (((inner k).take (t + 1)).filter (fp k)).map (fo k)), fun H' p => ⟨ws.length - (t + 1), by omega, rfl, hlt2, p⟩, ?_⟩
          rintro v2 H5 ⟨e5, y5⟩
          rw [e5]
          obtain ⟨d, hd, rd⟩ := rw.get (y5 ws hb4)
          have s4 := sr_inner (j := j) (sr_outer (i := i) (j := j) (s1.grow g4) k) (rd.mono e34)
          have hz := o2z t d (by omega) hd
          have hol := outL k hk
          have hfl := List.length_filter_le (fp k) ((inner k).take t)
          rw [List.length_take] at hfl
          have hBk := hB k hlt
          have hmul : (k + 1) * B ≤ (m.toNat + 1) * B := Nat.mul_le_mul_right B (by omega)
          rw [Nat.succ_mul] at hmul
          refine ⟨wipe1, ?_⟩
          intro s' H' Cl cl fpp
          refine ht k hlt t d hd s' H' Cl cl fpp _ _ _ _ _ _ s4 fun H6 H06 g6 => ?_
          cases hp : fp k d with
          | false =>
            rw [if_neg Bool.false_ne_true]
            refine ⟨H06, acc4, e34.trans g6.b, g4.trans g6, not_tup g6 h04 hL4 (fun xs z => by cases z), g6.h _ _ hL4, ?_⟩
            rw [hz, hp, if_neg Bool.false_ne_true, List.append_nil]
            exact r4.mono g6.b
          | true =>
            rw [if_pos rfl]
            intro s' H' Cl cl fpp
            refine he k hlt t d hd hp s' H' Cl cl fpp _ _ _ _ _ _ (s4.grow g6) fun y H7 H07 g7 ry => ?_
            have g67 := g6.trans g7
            have h07 := not_tup g67 h04 hL4 (fun xs z => by cases z)
            have gg := g4.trans g67
            refine ⟨acc4, g67.h _ _ hL4, ?_, H07, acc4 ++ [y], e34.trans g67.b, ⟨gg.b, fun a u e => ?_, fun a u e => ?_, gg.n⟩, h07, upd_same, ?_⟩
            · rw [r4.len, List.length_append, List.length_map]
              exact Nat.lt_of_lt_of_le (by omega : _ < 1000000) (by decide)
            · rw [upd_ne (ne_of_none e h07)]; exact gg.i a u e
            · rw [upd_ne (ne_of_none e hn)]; exact gg.h a u e
            · rw [hz, hp, if_pos rfl, List.map_append, ← List.append_assoc]
              exact (r4.mono g67.b).snoc ry
        · have e : t = ws.length := by omega
          subst e
          refine .inl ⟨⟨ws, hb4, Nat.le_refl _⟩, H04, acc4, g4, h04, hL4, ?_⟩
          rw [hwl, List.take_length] at r4
          rw [outS]
          exact r4
    · have e : k = m.toNat := by omega
      subst e
      obtain ⟨H0', acc, g1, h0, hL, r⟩ := mk
      exact .inl ⟨Nat.le_refl _, q L acc _ H0' (g.trans g1) (g.h.free hn) h0 hL r⟩
theorem ro_RR (hK : X.K = K) {m : Int} {B : Nat} (w : Nat → Int) (fo : Nat → Nat → D) (fp : Nat → Nat → Bool) (ha : EB X cs a (.int m)) (hm : -1000000 ≤ m ∧ m < 1000000) (hpl : Pl a) (hij : i ≠ j) (hB : ∀ x, x < m.toNat → -1000000 ≤ w x ∧ w x < 1000000 ∧ (w x).toNat ≤ B) (hpl1 : Pl a1) (hsz : (m.toNat + 1) * B < 1000000)
    (hit : ∀ x : Nat, x < m.toNat → BX X sc fun Y => EB Y (oc cs i j x) a1 (.int (w x)))
    (ht : ∀ x : Nat, x < m.toNat → ∀ y : Nat, y < (w x).toNat → BX X sc fun Y => TX Y ((oc cs i j x).set j (.sh (.int y))) c (fp x y))
    (he : ∀ x : Nat, x < m.toNat → ∀ y : Nat, y < (w x).toNat → fp x y = true → BX X sc fun Y => EX Y ((oc cs i j x).set j (.sh (.int y))) elt (fo x y)) :
    RO K cs (tLc2 (iRng1 (wA X [a])) (gName i) tYes (iRng1 (uA X sc [a1])) (gName j) (uT X sc c) (uE X sc elt) [i, j] [j]) ((List.range m.toNat).flatMap fun x => ((List.range (w x).toNat).filter (fp x)).map (fo x)) := fun He Hb H0 H σ Q s q => by
  subst hK
  refine eab_cons ha eab_nil hpl _ _ _ _ _ _ s fun vs H1 H01 g r => ?_
  cases r with
  | cons r1 r =>
    cases r
    cases r1
    refine ⟨m, rfl, by omega, by omega, fun L hn => ?_⟩
    have s1 := s.grow g
    let out : Nat → List D := fun k => (List.range k).flatMap fun x => ((List.range (w x).toNat).filter (fp x)).map (fo x)
    have outS : ∀ k, out (k + 1) = out k ++ ((List.range (w k).toNat).filter (fp k)).map (fo k) := fun k => by
      show (List.range (k + 1)).flatMap _ = _
      rw [List.range_succ, List.flatMap_append]
      simp [out]
    have outL : ∀ k, k ≤ m.toNat → (out k).length ≤ k * B := by
      intro k
      induction k with
      | zero => intro _; simp [out]
      | succ k ih =>
        intro hk
        rw [outS, List.length_append, List.length_map, Nat.succ_mul]
        have h1 := ih (by omega)
        have h2 := List.length_filter_le (fp k) (List.range (w k).toNat)
        rw [List.length_range] at h2
        have h3 := hB k (by omega)
        omega
    refine ⟨fun k n H' => n = m.toNat - k ∧ k ≤ m.toNat ∧ Mk1 X.K H01 H1 L (out k) H', ⟨m.toNat, by simp, Nat.zero_le _, by exact Mk1.start g.i hn⟩, ?_⟩
    rintro k n H' ⟨rfl, hk, mk⟩
    by_cases hlt : k < m.toNat
    · refine .inr ⟨hlt, fun H' => Mk1 X.K H01 H1 L (out (k + 1)) H', fun H' p => ⟨m.toNat - (k + 1), by omega, rfl, hlt, p⟩, ?_⟩
      rintro v H2 ⟨e1, e2⟩
      rw [e1, e2]
      refine ⟨wipe2 hij, ?_⟩
      refine tYes_if ?_
      obtain ⟨H0', acc, g1, h0, hL, r⟩ := mk
      have s2 := sr_outer (i := i) (j := j) (s1.grow g1) k
      intro sB HB ClB clB fpB
      refine eab_cons (hit k hlt sB HB ClB clB fpB) eab_nil hpl1 _ _ _ _ _ _ s2 fun ws H3 H03 g2 rw => ?_
      cases rw with
      | cons rw rz =>
        cases rz
        cases rw
        have hBk := hB k hlt
        refine ⟨w k, rfl, by omega, by omega, ?_⟩
        have gB := g1.trans g2
        have hL3 := g2.h _ _ hL
        have h03 := not_tup g2 h0 hL (fun xs z => by cases z)
        have o2z : ∀ t, (List.range (t + 1)).filter (fp k) = (List.range t).filter (fp k) ++ (if fp k t = true then [t] else []) := fun t => by
          rw [List.range_succ, List.filter_append]
          simp [List.filter_cons]
        refine ⟨fun t n H' => n = (w k).toNat - t ∧ t ≤ (w k).toNat ∧ ∃ H0' acc, Grow H01 H1 H0' H' ∧ H0' L = none ∧ H' L = some (.lst acc) ∧ RepA X.K H0' acc (out k ++ ((List.range t).filter (fp k)).map (fo k)), ⟨(w k).toNat, by simp, Nat.zero_le _, H03, acc, gB, h03, hL3, by simpa using r.mono g2.b⟩, ?_⟩
        rintro t n2 H4 ⟨rfl, htl, H04, acc4, g4, h04, hL4, r4⟩
        by_cases hlt2 : t < (w k).toNat
        · refine .inr ⟨hlt2, fun H' => ∃ H0' acc, Grow H01 H1 H0' H' ∧ H0' L = none ∧ H' L = some (.lst acc) ∧ RepA X.K H0' acc (out k ++ ((List.range (t + 1)).filter (fp k)).map (fo k)), fun H' p => ⟨(w k).toNat - (t + 1), by omega, rfl, hlt2, p⟩, ?_⟩
          rintro v2 H5 ⟨e5, y5⟩
          rw [e5, y5]
          have s4 := sr_inner (j := j) (v := .int (0 + (t : Int))) (d := .int t) (sr_outer (i := i) (j := j) (s1.grow g4) k) (by rw [Int.zero_add]; exact .int _)
          have hz := o2z t
          have hol := outL k hk
          have hfl := List.length_filter_le (fp k) (List.range t)
          rw [List.length_range] at hfl
          have hmul : (k + 1) * B ≤ (m.toNat + 1) * B := Nat.mul_le_mul_right B (by omega)
          rw [Nat.succ_mul] at hmul
          refine ⟨wipe1, ?_⟩
          intro s' H' Cl cl fpp
          refine ht k hlt t hlt2 s' H' Cl cl fpp _ _ _ _ _ _ s4 fun H6 H06 g6 => ?_
          cases hp : fp k t with
          | false =>
            rw [if_neg Bool.false_ne_true]
            refine ⟨H06, acc4, g4.trans g6, not_tup g6 h04 hL4 (fun xs z => by cases z), g6.h _ _ hL4, ?_⟩
            rw [hz, hp, if_neg Bool.false_ne_true, List.append_nil]
            exact r4.mono g6.b
          | true =>
            rw [if_pos rfl]
            intro s' H' Cl cl fpp
            refine he k hlt t hlt2 hp s' H' Cl cl fpp _ _ _ _ _ _ (s4.grow g6) fun y H7 H07 g7 ry => ?_
            have g67 := g6.trans g7
            have h07 := not_tup g67 h04 hL4 (fun xs z => by cases z)
            have gg := g4.trans g67
            refine ⟨acc4, g67.h _ _ hL4, ?_, H07, acc4 ++ [y], ⟨gg.b, fun a u e => ?_, fun a u e => ?_, gg.n⟩, h07, upd_same, ?_⟩
            · rw [r4.len, List.length_append, List.length_map]
              exact Nat.lt_of_lt_of_le (by omega : _ < 1000000) (by decide)
            · rw [upd_ne (ne_of_none e h07)]; exact gg.i a u e
            · rw [upd_ne (ne_of_none e hn)]; exact gg.h a u e
            · rw [hz, hp, if_pos rfl, List.map_append, ← List.append_assoc]
              exact (r4.mono g67.b).snoc ry
        · have e : t = (w k).toNat := by omega
          subst e
          refine .inl ⟨Nat.le_refl _, H04, acc4, g4, h04, hL4, ?_⟩
          rw [outS]
          exact r4
    · have e : k = m.toNat := by omega
      subst e
      obtain ⟨H0', acc, g1, h0, hL, r⟩ := mk
      exact .inl ⟨Nat.le_refl _, q L acc _ H0' (g.trans g1) (g.h.free hn) h0 hL r⟩
end
end DL

end
section
set_option maxHeartbeats 2000000
namespace DL
open PySem PySem.Spec L2
/-! a list of one's own that holds lists of one's own -/
structure RowsAt (Hb H0 H : Hp) (L : Addr) (dss : List (List Int)) (ls : List Addr) : Prop where
  h0 : H0 L = none
  hb : Hb L = none
  h : H L = some (.lst (ls.map V.ref))
  nd : ls.Nodup
  ne : L ∉ ls
  len : ls.length = dss.length
  at_ : ∀ (i : Nat) (l : Addr) (ns : List Int), ls[i]? = some l → dss[i]? = some ns → Hb l = none ∧ H0 l = none ∧ H l = some (.lst (ns.map V.int))
theorem RowsAt.grow {Hb H0 H H0' H' : Hp} {L : Addr} {dss : List (List Int)} {ls : List Addr} (r : RowsAt Hb H0 H L dss ls) (g : Grow H0 H H0' H') : RowsAt Hb H0' H' L dss ls :=
  ⟨not_tup g r.h0 r.h (fun xs z => by cases z), r.hb, g.h _ _ r.h, r.nd, r.ne, r.len, fun i l ns h1 h2 => by
    obtain ⟨a, b, c⟩ := r.at_ i l ns h1 h2
    exact ⟨a, not_tup g b c (fun xs z => by cases z), g.h _ _ c⟩⟩
def NoOwn (cs : List C) : Prop := ∀ c ∈ cs, c.own = false
theorem SR.outer {K : PySem.W.Frag} {He Hb H0 H : Hp} {σ : St} {cs : List C} (s : SR K He Hb H0 H σ cs) (no : NoOwn cs) {l : Addr} {o : HO} (hb : Hb l = Option.none) (h0 : H0 l = Option.none) : SR K He Hb H0 (upd H l o) σ cs := by
  refine ⟨⟨s.gr.b, fun a u e => by rw [upd_ne (ne_of_none e h0)]; exact s.gr.i a u e, fun a u e => by rw [upd_ne (ne_of_none e hb)]; exact s.gr.h a u e, s.gr.n⟩, s.len, fun i c e => ?_, s.own, s.dis⟩
  have z := s.sl i c e
  have n := no c (List.mem_of_getElem? e)
  cases c with
  | any => trivial
  | sh d => exact z
  | ol ds => cases n
  | od ds => cases n
theorem RowsAt.put {Hb H0 H : Hp} {L : Addr} {dss : List (List Int)} {ls : List Addr} (r : RowsAt Hb H0 H L dss ls) {i : Nat} {l : Addr} {ns : List Int} {x : Int} (hl : ls[i]? = some l) (hn : dss[i]? = some ns) :
    RowsAt Hb H0 (upd H l (.lst ((ns ++ [x]).map V.int))) L (dss.set i (ns ++ [x])) ls := by
  have hL : L ≠ l := fun e => r.ne (by rw [e]; exact List.mem_of_getElem? hl)
  refine ⟨r.h0, r.hb, by rw [upd_ne hL]; exact r.h, r.nd, r.ne, by rw [List.length_set]; exact r.len, fun j l' ms h1 h2 => ?_⟩
  by_cases e : i = j
  · subst e
    rw [hl] at h1
    cases h1
    have hi := (List.getElem?_eq_some_iff.mp hn).1
    rw [List.getElem?_set_self hi] at h2
    cases h2
    obtain ⟨a, b, c⟩ := r.at_ i l ns hl hn
    exact ⟨a, b, upd_same⟩
  · rw [List.getElem?_set_ne e] at h2
    have hne : l' ≠ l := fun z => e (nd_ix r.nd (by rw [← z] at hl; exact hl) h1)
    obtain ⟨a, b, c⟩ := r.at_ j l' ms h1 h2
    exact ⟨a, b, by rw [upd_ne hne]; exact c⟩
/-- all of it becomes shared -/
theorem RowsAt.freeze {K : PySem.W.Frag} {He Hb H0 H : Hp} {σ : St} {cs : List C} {L : Addr} {dss : List (List Int)} {ls : List Addr} (r : RowsAt Hb H0 H L dss ls) (s : SR K He Hb H0 H σ cs) (no : NoOwn cs) {i : Nat} (hi : σ[i]? = some (some (.ref L))) :
    ∃ H0', Same H0 H0' ∧ SR K He Hb H0' H σ (cs.set i (.sh (.lst (dss.map fun ns : List Int => D.lst (ns.map D.int))))) := by
  let H0' : Hp := fun a => if a = L ∨ a ∈ ls then H a else H0 a
  have none0 : ∀ a, (a = L ∨ a ∈ ls) → H0 a = none := fun a h => by
    rcases h with rfl | h
    · exact r.h0
    · obtain ⟨j, hj, e⟩ := List.mem_iff_getElem.mp h
      have h2 : j < dss.length := by rw [← r.len]; exact hj
      exact (r.at_ j a dss[j] (by rw [List.getElem?_eq_getElem hj, e]) (List.getElem?_eq_getElem h2)).2.1
  have noneb : ∀ a, (a = L ∨ a ∈ ls) → Hb a = none := fun a h => by
    rcases h with rfl | h
    · exact r.hb
    · obtain ⟨j, hj, e⟩ := List.mem_iff_getElem.mp h
      have h2 : j < dss.length := by rw [← r.len]; exact hj
      exact (r.at_ j a dss[j] (by rw [List.getElem?_eq_getElem hj, e]) (List.getElem?_eq_getElem h2)).1
  have b : Same H0 H0' := fun a u e => by
    show (if a = L ∨ a ∈ ls then H a else H0 a) = some u
    by_cases h : a = L ∨ a ∈ ls
    · rw [none0 a h] at e; cases e
    · rw [if_neg h]; exact e
  have inH : Same H0' H := fun a u e => by
    have e : (if a = L ∨ a ∈ ls then H a else H0 a) = some u := e
    by_cases h : a = L ∨ a ∈ ls
    · rw [if_pos h] at e; exact e
    · rw [if_neg h] at e; exact s.gr.i a u e
  have rep : ∀ (ks : List Addr) (es : List (List Int)), ks.length = es.length → (∀ (j : Nat) (l : Addr) (ns : List Int), ks[j]? = some l → es[j]? = some ns → l ∈ ls ∧ H l = some (.lst (ns.map V.int))) → RepA K H0' (ks.map V.ref) (es.map fun ns : List Int => D.lst (ns.map D.int)) := by
    intro ks
    induction ks with
    | nil => intro es he _; cases es with
      | nil => exact .nil
      | cons _ _ => cases he
    | cons k ks ih =>
      intro es he h
      cases es with
      | nil => cases he
      | cons e es =>
        obtain ⟨h1, h2⟩ := h 0 k e rfl rfl
        refine .cons (.lst (xs := e.map V.int) ?_ RepA.ints) (ih es (by simpa using he) fun j l ns a b => h (j + 1) l ns (by simpa using a) (by simpa using b))
        show (if k = L ∨ k ∈ ls then H k else H0 k) = _
        rw [if_pos (.inr h1)]
        exact h2
  refine ⟨H0', b, ⟨⟨s.gr.b.trans b, inH, s.gr.h, fun a u e => ?_⟩, by rw [List.length_set]; exact s.len, fun j c e => ?_, fun j c l e o _ => ?_, fun j k c c' l _ e _ o _ _ _ => ?_⟩⟩
  · have e : (if a = L ∨ a ∈ ls then H a else H0 a) = some u := e
    by_cases h : a = L ∨ a ∈ ls
    · exact .inr (.inl (noneb a h))
    · rw [if_neg h] at e; exact s.gr.n a u e
  · by_cases hj : i = j
    · subst hj
      have hlt : i < cs.length := by
        have := (List.getElem?_eq_some_iff.mp e).1
        simpa using this
      rw [List.getElem?_set_self hlt] at e
      cases e
      refine ⟨_, hi, .lst (xs := ls.map V.ref) ?_ (rep ls dss r.len fun j l ns a b => ⟨List.mem_of_getElem? a, (r.at_ j l ns a b).2.2⟩)⟩
      show (if L = L ∨ L ∈ ls then H L else H0 L) = _
      rw [if_pos (.inl rfl)]
      exact r.h
    · rw [List.getElem?_set_ne hj] at e
      have z := s.sl j c e
      have n := no c (List.mem_of_getElem? e)
      cases c with
      | any => trivial
      | sh d => obtain ⟨v, e1, e2⟩ := z; exact ⟨v, e1, e2.mono b⟩
      | ol ds => cases n
      | od ds => cases n
  · exfalso
    by_cases hj : i = j
    · subst hj
      have hlt : i < cs.length := by
        have := (List.getElem?_eq_some_iff.mp e).1
        simpa using this
      rw [List.getElem?_set_self hlt] at e
      cases e
      cases o
    · rw [List.getElem?_set_ne hj] at e
      rw [no c (List.mem_of_getElem? e)] at o
      cases o
  · exfalso
    by_cases hj : i = j
    · subst hj
      have hlt : i < cs.length := by
        have := (List.getElem?_eq_some_iff.mp e).1
        simpa using this
      rw [List.getElem?_set_self hlt] at e
      cases e
      cases o
    · rw [List.getElem?_set_ne hj] at e
      rw [no c (List.mem_of_getElem? e)] at o
      cases o
end DL
namespace DL
open PySem PySem.Spec L2
section
variable {K : PySem.W.Frag} {He Hb H0 H H' : Hp} {σ : St} {cs : List C}
theorem SR.setAny (s : SR K He Hb H0 H σ cs) (i : Nat) (o : Option V) : SR K He Hb H0 H (σ.set i o) (cs.set i .any) := by
  have out : ∀ (j : Nat) (c : C), (cs.set i .any)[j]? = some c → i = j → c = .any := fun j c e h => by
    subst h
    have hi : i < cs.length := by
      have := (List.getElem?_eq_some_iff.mp e).1
      simpa using this
    rw [List.getElem?_set_self hi] at e
    exact (Option.some.inj e).symm
  refine ⟨s.gr, by rw [List.length_set, List.length_set, s.len], fun j c e => ?_, fun j c l e ow q => ?_, fun j k c c' l ne e e' ow ow' q q' => ?_⟩
  · by_cases h : i = j
    · rw [out j c e h]; exact True.intro
    · rw [List.getElem?_set_ne h] at e ⊢; exact s.sl j c e
  · have h : i ≠ j := fun h => by rw [out j c e h] at ow; cases ow
    rw [List.getElem?_set_ne h] at e q
    exact s.own j c l e ow q
  · have h1 : i ≠ j := fun h => by rw [out j c e h] at ow; cases ow
    have h2 : i ≠ k := fun h => by rw [out k c' e' h] at ow'; cases ow'
    rw [List.getElem?_set_ne h1] at e q
    rw [List.getElem?_set_ne h2] at e' q'
    exact s.dis j k c c' l ne e e' ow ow' q q'
/-- nothing of one's own in the slots: the heap may change where nothing is shared -/
theorem SR.heap (s : SR K He Hb H0 H σ cs) (no : NoOwn cs) (h0 : Same H0 H') (hb : Same Hb H') : SR K He Hb H0 H' σ cs := by
  refine ⟨⟨s.gr.b, h0, hb, s.gr.n⟩, s.len, fun i c e => ?_, s.own, s.dis⟩
  have z := s.sl i c e
  have n := no c (List.mem_of_getElem? e)
  cases c with
  | any => trivial
  | sh d => exact z
  | ol ds => cases n
  | od ds => cases n
/-- a new empty list more -/
theorem RowsAt.more {L p : Addr} {dss : List (List Int)} {ls : List Addr} (r : RowsAt Hb H0 H L dss ls) (h0 : Same H0 H) (hb : Same Hb H) (hp : H p = none) :
    RowsAt Hb H0 (upd (upd H p (.lst [])) L (.lst ((ls ++ [p]).map V.ref))) L (dss ++ [[]]) (ls ++ [p]) := by
  have hpL : p ≠ L := fun e => by rw [e, r.h] at hp; cases hp
  have hpls : p ∉ ls := fun m => by
    obtain ⟨j, hj, e⟩ := List.mem_iff_getElem.mp m
    have h2 : j < dss.length := by rw [← r.len]; exact hj
    have := (r.at_ j p dss[j] (by rw [List.getElem?_eq_getElem hj, e]) (List.getElem?_eq_getElem h2)).2.2
    rw [hp] at this
    cases this
  refine ⟨r.h0, r.hb, upd_same, ?_, ?_, by simp [r.len], fun i l ns h1 h2 => ?_⟩
  · rw [List.nodup_append]
    exact ⟨r.nd, by simp, fun x hx y hy e => hpls (by rw [List.mem_singleton.mp hy] at e; rw [← e]; exact hx)⟩
  · simp [r.ne, hpL.symm]
  · by_cases hi : i < ls.length
    · rw [List.getElem?_append_left hi] at h1
      rw [List.getElem?_append_left (by rw [← r.len]; exact hi)] at h2
      obtain ⟨a, b, cc⟩ := r.at_ i l ns h1 h2
      have n1 : l ≠ L := fun e => r.ne (by rw [← e]; exact List.mem_of_getElem? h1)
      have n2 : l ≠ p := fun e => hpls (by rw [← e]; exact List.mem_of_getElem? h1)
      exact ⟨a, b, by rw [upd_ne n1, upd_ne n2]; exact cc⟩
    · rw [List.getElem?_append_right (by omega)] at h1
      rw [List.getElem?_append_right (by rw [← r.len]; omega)] at h2
      rw [← r.len] at h2
      have e0 : i - ls.length = 0 := by
        have := (List.getElem?_eq_some_iff.mp h1).1
        simp at this
        omega
      rw [e0] at h1 h2
      cases h1
      cases h2
      exact ⟨hb.free hp, h0.free hp, by rw [upd_ne hpL, upd_same]; rfl⟩
end
end DL
namespace DL
open PySem PySem.Spec L2
section
variable {X : Cx} {cs : List C} {e : Expr} {es : List Expr} {st : Stmt} {sts : List Stmt} {F : DE} {He Hb H0 H : Hp} {σ : St} {E : Ends} {d : D} {ds : List D} {k : Bool}
theorem EX.run (h : EX X cs e d) {Q : VK} (s : SR X.K He Hb H0 H σ cs) (q : ∀ v H' H0', Grow H0 H H0' H' → Rep X.K H0' v d → Q v H') : wE X e σ H Q := h _ _ _ _ _ _ s q
theorem EB.run (h : EB X cs e d) {Q : VK} (s : SR X.K He Hb H0 H σ cs) (q : ∀ v H' H0', Grow H0 H H0' H' → Rep X.K H' v d → Q v H') : wE X e σ H Q := h _ _ _ _ _ _ s q
theorem TX.run (h : TX X cs e k) {Q : Bool → Hp → Prop} (s : SR X.K He Hb H0 H σ cs) (q : ∀ H' H0', Grow H0 H H0' H' → Q k H') : wT X e σ H Q := h _ _ _ _ _ _ s q
theorem EA.run (h : EA X cs es ds) {Q : List V → Hp → Prop} (s : SR X.K He Hb H0 H σ cs) (q : ∀ vs H' H0', Grow H0 H H0' H' → RepA X.K H0' vs ds → Q vs H') : wA X es σ H Q := h _ _ _ _ _ _ s q
theorem SX.run (h : SX X cs st F) (s : SR X.K He Hb H0 H σ cs) (q : DEnd X He Hb H0 F E) : wS X st E σ H := h _ _ _ _ _ _ s q
theorem SXs.run (h : SXs X cs sts F) (s : SR X.K He Hb H0 H σ cs) (q : DEnd X He Hb H0 F E) : wSs X sts E σ H := h _ _ _ _ _ _ s q
theorem DEnd.raise {Pe : Addr → List C → Prop} (h : L2N.Takes X (WC X.K He Hb H0 Pe)) : DEnd X He Hb H0 { nx := fun _ => False, rt := fun _ => False, ex := Pe } E :=
  ⟨fun _ _ _ _ _ _ z => z.elim, fun _ _ _ _ _ _ z => z.elim, fun _ _ _ _ _ _ z => z.elim, fun _ _ _ _ _ _ z => z.elim, h⟩
end
end DL
namespace DL
open PySem PySem.Spec L2
/-- a slot's content is forgotten -/
theorem SR.setAny' {K : PySem.W.Frag} {He Hb H0 H : Hp} {σ : St} {cs : List C} (s : SR K He Hb H0 H σ cs) (i : Nat) {o : Option V} (h : σ[i]? = some o) : SR K He Hb H0 H σ (cs.set i .any) := by
  have z := s.setAny i o
  have e : σ.set i o = σ := by
    refine List.ext_getElem? fun j => ?_
    by_cases hj : i = j
    · subst hj
      rw [List.getElem?_set_self (List.getElem?_eq_some_iff.mp h).1, h]
    · rw [List.getElem?_set_ne hj]
  rw [e] at z
  exact z
end DL
namespace DL
open PySem PySem.Spec L2
abbrev H00 : Hp := fun _ => none
/-- all of it becomes shared, nothing else is -/
theorem RowsAt.freezeF {K : PySem.W.Frag} {Hb H0 H : Hp} {σ : St} {L : Addr} {dss : List (List Int)} {ls : List Addr} (r : RowsAt Hb H0 H L dss ls) (hh : Same Hb H) {i n : Nat} (hl : σ.length = n) (hi : σ[i]? = some (some (.ref L))) :
    ∃ H0', SR K H00 Hb H0' H σ ((List.replicate n C.any).set i (.sh (.lst (dss.map fun ns : List Int => D.lst (ns.map D.int))))) := by
  let H0' : Hp := fun a => if a = L ∨ a ∈ ls then H a else Option.none
  have noneb : ∀ a, (a = L ∨ a ∈ ls) → Hb a = Option.none := fun a h => by
    rcases h with rfl | h
    · exact r.hb
    · obtain ⟨j, hj, e⟩ := List.mem_iff_getElem.mp h
      have h2 : j < dss.length := by rw [← r.len]; exact hj
      exact (r.at_ j a dss[j] (by rw [List.getElem?_eq_getElem hj, e]) (List.getElem?_eq_getElem h2)).1
  have rep : ∀ (ks : List Addr) (es : List (List Int)), ks.length = es.length → (∀ (j : Nat) (l : Addr) (ns : List Int), ks[j]? = some l → es[j]? = some ns → l ∈ ls ∧ H l = some (.lst (ns.map V.int))) → RepA K H0' (ks.map V.ref) (es.map fun ns : List Int => D.lst (ns.map D.int)) := by
    intro ks
    induction ks with
    | nil => intro es he _; cases es with
      | nil => exact .nil
      | cons _ _ => cases he
    | cons k ks ih =>
      intro es he h
      cases es with
      | nil => cases he
      | cons e es =>
        obtain ⟨h1, h2⟩ := h 0 k e rfl rfl
        refine .cons (.lst (xs := e.map V.int) ?_ RepA.ints) (ih es (by simpa using he) fun j l ns a b => h (j + 1) l ns (by simpa using a) (by simpa using b))
        show (if k = L ∨ k ∈ ls then H k else Option.none) = _
        rw [if_pos (.inr h1)]
        exact h2
  have own : ∀ (j : Nat) (c : C), ((List.replicate n C.any).set i (.sh (.lst (dss.map fun ns : List Int => D.lst (ns.map D.int)))))[j]? = some c → c.own = true → False := fun j c e o => by
    by_cases hj : i = j
    · subst hj
      have hlt : i < (List.replicate n C.any).length := by
        have := (List.getElem?_eq_some_iff.mp e).1
        simpa using this
      rw [List.getElem?_set_self hlt] at e
      cases e
      cases o
    · rw [List.getElem?_set_ne hj] at e
      rw [(List.mem_replicate.mp (List.mem_of_getElem? e)).2] at o
      cases o
  refine ⟨H0', ⟨⟨fun a u e => (by cases e), fun a u e => ?_, hh, fun a u e => ?_⟩, by simp [hl], fun j c e => ?_, fun j c l e o _ => (own j c e o).elim, fun j k c c' l _ e _ o _ _ _ => (own j c e o).elim⟩⟩
  · have e : (if a = L ∨ a ∈ ls then H a else Option.none) = some u := e
    by_cases h : a = L ∨ a ∈ ls
    · rw [if_pos h] at e; exact e
    · rw [if_neg h] at e; cases e
  · have e : (if a = L ∨ a ∈ ls then H a else Option.none) = some u := e
    by_cases h : a = L ∨ a ∈ ls
    · exact .inr (.inl (noneb a h))
    · rw [if_neg h] at e; cases e
  · by_cases hj : i = j
    · subst hj
      have hlt : i < (List.replicate n C.any).length := by
        have := (List.getElem?_eq_some_iff.mp e).1
        simpa using this
      rw [List.getElem?_set_self hlt] at e
      cases e
      refine ⟨_, hi, .lst (xs := ls.map V.ref) ?_ (rep ls dss r.len fun j l ns a b => ⟨List.mem_of_getElem? a, (r.at_ j l ns a b).2.2⟩)⟩
      show (if L = L ∨ L ∈ ls then H L else Option.none) = _
      rw [if_pos (.inl rfl)]
      exact r.h
    · rw [List.getElem?_set_ne hj] at e
      rw [(List.mem_replicate.mp (List.mem_of_getElem? e)).2]
      exact True.intro
/-- a def's promise whose answer is all new -/
def spF (K : PySem.W.Frag) (R : List D → (Out → Prop) → Prop) : Sp := fun vs H Q E => ∃ (ds : List D) (post : Out → Prop), RepA K H vs ds ∧ R ds post ∧
  (∀ d v H' H0', post (.ret d) → Grow H00 H H0' H' → Rep K H0' v d → Q v H') ∧ ∀ Cl H', post (.exc Cl) → Same H H' → E (.ref Cl) none H'
/-- what is all new joins what is shared -/
def join (H0 F : Hp) : Hp := fun a => match H0 a with
  | some o => some o
  | none => F a
theorem Grow.join {H0 H F H' : Hp} (i : Same H0 H) (g : Grow H00 H F H') : Grow H0 H (join H0 F) H' ∧ Same F (join H0 F) := by
  refine ⟨⟨fun a o e => ?_, fun a o e => ?_, g.h, fun a o e => ?_⟩, fun a o e => ?_⟩
  · unfold DL.join; rw [e]
  · unfold DL.join at e
    cases h : H0 a with
    | some u => rw [h] at e; cases e; exact g.h _ _ (i _ _ h)
    | none => rw [h] at e; exact g.i _ _ e
  · unfold DL.join at e
    cases h : H0 a with
    | some u => rw [h] at e; cases e; exact .inl rfl
    | none =>
      rw [h] at e
      rcases g.n a o e with z | z | z
      · cases z
      · exact .inr (.inl z)
      · exact .inr (.inr z)
  · unfold DL.join
    cases h : H0 a with
    | some u =>
      have q := g.h _ _ (i _ _ h)
      rw [g.i _ _ e] at q
      exact q.symm
    | none => exact e
/-- an object's making: its __init__ -/
def spMk (K : PySem.W.Frag) (Cn : Addr) (R : List D → (Out → Prop) → Prop) : Sp := fun vs H Q E => ∃ (Hc : Hp) (x dx : Addr) (vs' : List V) (ds : List D) (post : Out → Prop), vs = .ref x :: vs' ∧ H = upd (upd Hc dx (.own x)) x (.ins Cn dx []) ∧ Hc x = none ∧ Hc dx = none ∧ dx ≠ x ∧ RepA K Hc vs' ds ∧ R ds post ∧
  (∀ d H' H0', post (.ret d) → Grow H00 Hc H0' H' → Rep K H0' (.ref x) d → Q .non H') ∧ ∀ Cl H', post (.exc Cl) → Same Hc H' → E (.ref Cl) none H'
section
variable {X : Cx} {cs : List C} {e : Expr} {es : List Expr} {pos p : Pos} {d : D} {ds : List D} {R : List D → (Out → Prop) → Prop} {E : XK}
theorem ex_make {Cn : Addr} (hp : PE X e (tMake Cn (spMk X.K Cn R) [] E (wA X es))) (ha : EAb X cs es ds) (h : R ds (fun o => o = .ret d)) : EX X cs e d := fun He Hb H0 H σ Q s q =>
  wE_of hp (ha _ _ _ _ _ _ s fun vs H1 H01 g1 r1 x dx hx hdx hne => ⟨H1, x, dx, vs, ds, _, by rw [List.append_nil], rfl, hx, hdx, hne, r1, h, fun d' H2 F e g2 r2 => by
    cases e
    obtain ⟨g3, m⟩ := Grow.join g1.i g2
    exact ⟨rfl, q _ _ _ (g1.trans g3) (r2.mono m)⟩, fun _ _ e => nomatch e⟩)
end
end DL

end
section
set_option maxHeartbeats 2000000
namespace DL
open PySem PySem.Spec L2
/-- nothing is let out -/
theorem passN {X : Cx} : Passes (L2N.CX X.prog X.w) X E0 := fun _ _ _ _ e s' I c => takes_no (K := X.K) (He := H00) (Hb := H00) (H0 := H00) e s' (L2N.XE.of_call I (fun _ _ _ h => False.elim h) c)
section
variable {X : Cx} {cs : List C} {o : Expr} {pos apos : Pos} {d : D} {R : List D → (Out → Prop) → Prop} {E : XK}
theorem ex_methA {es : List Expr} {ds : List D} {Cl : Addr} {fs : List (Str × D)} {m : Str} (hp : PE X (.Call (.Attribute o m apos) es [] pos) (tMeth Cl m (spD X.K R) [] E (wE X o) (wA X es))) (ho : EX X cs o (.obj Cl fs)) (hl : fs.lookup m = none)
    (ha : EA X cs es ds) (h : R (.obj Cl fs :: ds) (fun o => o = .ret d)) : EX X cs (.Call (.Attribute o m apos) es [] pos) d := fun He Hb H0 H σ Q s q =>
  wE_of hp (ho _ _ _ _ _ _ s fun x H1 H01 g1 r1 => by
    cases r1 with
    | obj h1 r1 =>
      refine ⟨_, _, _, rfl, g1.i _ _ h1, r1.nolook hl, ?_⟩
      refine ha _ _ _ _ _ _ (s.grow g1) fun vs H2 H02 g2 r2 => ?_
      exact ⟨H02, _, _, g2.i, by rw [List.append_nil]; exact .cons (.obj (g2.b _ _ h1) (r1.mono g2.b)) r2, h, fun d' v H3 H03 e g3 r3 => by cases e; exact q _ _ _ ((g1.trans g2).trans g3) r3, fun _ _ e => nomatch e⟩)
theorem ex_meth0 {Cl : Addr} {fs : List (Str × D)} {m : Str} (hp : PE X (.Call (.Attribute o m apos) [] [] pos) (tMeth Cl m (spD X.K R) [] E (wE X o) tNil)) (ho : EX X cs o (.obj Cl fs)) (hl : fs.lookup m = none)
    (h : R [.obj Cl fs] (fun o => o = .ret d)) : EX X cs (.Call (.Attribute o m apos) [] [] pos) d := fun He Hb H0 H σ Q s q =>
  wE_of hp (ho _ _ _ _ _ _ s fun x H1 H01 g1 r1 => by
    cases r1 with
    | obj h1 r1 =>
      refine ⟨_, _, _, rfl, g1.i _ _ h1, r1.nolook hl, ?_⟩
      exact ⟨H01, _, _, g1.i, by rw [List.append_nil]; exact .cons (.obj h1 r1) .nil, h, fun d' v H3 H03 e g3 r3 => by cases e; exact q _ _ _ (g1.trans g3) r3, fun _ _ e => nomatch e⟩)
end
end DL

end
section
set_option maxHeartbeats 2000000
namespace DL
open PySem PySem.Spec L2
/-! an answer that is a new list -/
def spN (K : PySem.W.Frag) (R : List D → (Out → Prop) → Prop) : Sp := fun vs H Q E => ∃ (H0 : Hp) (ds : List D) (post : Out → Prop), Same H0 H ∧ RepA K H0 vs ds ∧ R ds post ∧
  (∀ ds' l ws H' H0', post (.ret (.lst ds')) → Grow H0 H H0' H' → H l = none → H0' l = none → H' l = some (.lst ws) → RepA K H0' ws ds' → Q (.ref l) H') ∧ ∀ Cl H', post (.exc Cl) → Same H H' → E (.ref Cl) none H'
theorem spN_spD {K : PySem.W.Frag} {R : List D → (Out → Prop) → Prop} {vs : List V} {H : Hp} {Q : VK} {E : XK} (h : spD K R vs H Q E) : spN K R vs H Q E := by
  obtain ⟨H0, ds, post, i, r, h, k1, k2⟩ := h
  exact ⟨H0, ds, post, i, r, h, fun ds' l ws H' H0' z g hl h0 h1 rw => k1 _ _ H' _ z (g.freeze hl h0 h1) (.lst upd_same (rw.mono (same_upd h0))), k2⟩
structure MtN (P : Program) (w : World) (K : PySem.W.Frag) (mg : Str → Option Value) (base : Heap) (CX : CXT) (k : Nat) (Cl : Addr) (m : Str) (f : Addr) (fd : FuncData) (ps : List Str) (R : List D → (Out → Prop) → Prop) : Prop where
  ok : FnOk P w K mg base CX k f fd ps (spN K R)
  me : Meth K Cl m f
  bi : Binds K fd ps []
theorem MtN.d {P : Program} {w : World} {K : PySem.W.Frag} {mg : Str → Option Value} {base : Heap} {CX : CXT} {k : Nat} {Cl : Addr} {m : Str} {f : Addr} {fd : FuncData} {ps : List Str} {R : List D → (Out → Prop) → Prop} (M : MtN P w K mg base CX k Cl m f fd ps R) : MtC P w K mg base CX k Cl m f fd ps R := ⟨M.ok.imp fun _ _ _ _ h => spN_spD h, M.me, M.bi⟩
structure FnN (P : Program) (w : World) (K : PySem.W.Frag) (mg : Str → Option Value) (base : Heap) (CX : CXT) (k : Nat) (x : Str) (R : List D → (Out → Prop) → Prop) : Prop where
  ex : ∃ f fd ps, FnOk P w K mg base CX k f fd ps (spN K R) ∧ mg x = some (.ref f) ∧ PySem.W.keepIn K (.ref f) = true ∧ Binds K fd ps []
theorem FnN.d {P : Program} {w : World} {K : PySem.W.Frag} {mg : Str → Option Value} {base : Heap} {CX : CXT} {k : Nat} {x : Str} {R : List D → (Out → Prop) → Prop} (M : FnN P w K mg base CX k x R) : FnC P w K mg base CX k x R := by
  obtain ⟨f, fd, ps, ok, a, b, c⟩ := M.ex
  exact ⟨f, fd, ps, ok.imp fun _ _ _ _ h => spN_spD h, a, b, c⟩
/-- statements that end by the return of a new list -/
def SXo (X : Cx) (cs : List C) (sts : List Stmt) (F : DE) (post : List D → Prop) : Prop := ∀ (He Hb H0 H : Hp) (σ : St) (E : Ends), SR X.K He Hb H0 H σ cs → DEnd X He Hb H0 F E →
  (∀ ds' l ws H0' H', post ds' → Grow He Hb H0' H' → Hb l = none → H0' l = none → H' l = some (.lst ws) → RepA X.K H0' ws ds' → E.rt (.ref l) H') → wSs X sts E σ H
section
variable {X : Cx} {cs : List C} {e : Expr} {es sts A B : List Stmt} {st : Stmt} {c : Expr} {pos : Pos} {F : DE} {post : List D → Prop} {ds : List D}
theorem sxo_ret (h : EO X cs e ds) (k : post ds) : SXo X cs [.Return (some e) pos] F post := fun He Hb H0 H σ E s q r =>
  wSs_of (pss_one (ps_ret pe_w)) (h _ _ _ _ _ _ s fun l vs H' H0' g hl h0 h1 rw => r _ _ _ _ _ k (s.gr.trans g) (s.gr.h.free hl) h0 h1 rw)
theorem sxo_cons (h : SX X cs st { F with nx := fun cs' => SXo X cs' sts F post }) : SXo X cs (st :: sts) F post := fun He Hb H0 H σ E s q r =>
  wSs_of (pss_cons ps_w pss_w) (h _ _ _ _ _ { E with nx := fun σ' H' => wSs X sts E σ' H' } s ⟨fun cs' H0' H' σ' b s' z => z _ _ _ _ _ _ s' (q.mono b) r, q.rt, q.bk, q.ct, q.ex⟩)
theorem sxo_of (h : SXs X cs sts F) : SXo X cs sts F post := fun He Hb H0 H σ E s q _ => h _ _ _ _ _ _ s q
end
section
variable {P : Program} {w : World} {K : PySem.W.Frag} {mg : Str → Option Value} {base : Heap}
theorem fn_okN {x qual : Str} {st : Stmt} {f : Addr} {fd : FuncData} {N ps : List Str} {k : Nat} {R : List D → (Out → Prop) → Prop} (F : Fun K x qual st f fd) (S : FnScope N ps (defScope st)) (hl : ∀ ds post, R ds post → ds.length = ps.length) (hps : ps.length ≤ N.length)
    (hb : ∀ (X : Cx) ds post, (∃ cdv A outer s H E, X = (cxOf CX0 P w K mg base N qual (defScope st) f cdv A outer s H E).nox) → Room k X.A → R ds post → SXo X (ent N.length ds) (defBody st) { nx := fun _ => False, rt := fun _ => False } fun ds' => post (.ret (.lst ds'))) : FnOk P w K mg base CX0 (k + 1) f fd ps (spN K R) := by
  refine F.ok S (fun vs H Q E h => ?_) (fun cdv A outer s H vs Q E hr h => ?_)
  · obtain ⟨H0, ds, post, _, r, h, _⟩ := h
    rw [r.len]
    exact hl ds post h
  · obtain ⟨H0, ds, post, i, r, h, k1, k2⟩ := h
    refine ⟨_, pss_w, hb _ ds post ⟨_, _, _, _, _, _, rfl⟩ hr h _ _ _ _ _ _ (sr_start i r (by rw [hl ds post h]; exact hps)) ⟨fun _ _ _ _ _ _ z => z.elim, fun _ _ _ _ _ _ z => z.elim, fun _ _ _ _ _ _ z => z.elim, fun _ _ _ _ _ _ z => z.elim, takes_no⟩ fun ds' l ws H0' H' z g hl h0 h1 rw => k1 ds' l ws H' H0' z g hl h0 h1 rw⟩
theorem fn_okNX {x qual : Str} {st : Stmt} {f : Addr} {fd : FuncData} {N ps : List Str} {k : Nat} {R : List D → (Out → Prop) → Prop} (F : Fun K x qual st f fd) (S : FnScope N ps (defScope st)) (hl : ∀ ds post, R ds post → ds.length = ps.length) (hps : ps.length ≤ N.length)
    (hb : ∀ (X : Cx) ds post, (∃ cdv A outer s H E, X = cxOf (L2N.CX P w) P w K mg base N qual (defScope st) f cdv A outer s H E) → Room k X.A → R ds post → SXo X (ent N.length ds) (defBody st) { nx := fun _ => False, rt := fun _ => False, ex := fun Cl _ => post (.exc Cl) } fun ds' => post (.ret (.lst ds'))) : FnOk P w K mg base (L2N.CX P w) (k + 1) f fd ps (spN K R) := by
  refine okXN F S (fun vs H Q E h => ?_) (fun cdv A outer s H vs Q E hr h => ?_)
  · obtain ⟨H0, ds, post, _, r, h, _⟩ := h
    rw [r.len]
    exact hl ds post h
  · obtain ⟨H0, ds, post, i, r, h, k1, k2⟩ := h
    refine ⟨_, pss_w, hb _ ds post ⟨_, _, _, _, _, _, rfl⟩ hr h _ _ _ _ _ _ (sr_start i r (by rw [hl ds post h]; exact hps)) ⟨fun _ _ _ _ _ _ z => z.elim, fun _ _ _ _ _ _ z => z.elim, fun _ _ _ _ _ _ z => z.elim, fun _ _ _ _ _ _ z => z.elim, ?_⟩ fun ds' l ws H0' H' z g hl h0 h1 rw => k1 ds' l ws H' H0' z g hl h0 h1 rw⟩
    exact (L2N.takes_of (E := E) rfl rfl rfl rfl).imp fun c d' σ H' hw => by
      obtain ⟨Cl, cs, H0', rfl, rfl, h3, h4, h5⟩ := hw
      exact k2 Cl H' h5 h4.gr.h
end
section
variable {X : Cx} {cs : List C} {o : Expr} {es : List Expr} {pos apos : Pos} {ds xs : List D} {R : List D → (Out → Prop) → Prop} {E : XK}
theorem eo_methA {Cl : Addr} {fs : List (Str × D)} {m : Str} (hp : PE X (.Call (.Attribute o m apos) es [] pos) (tMeth Cl m (spN X.K R) [] E (wE X o) (wA X es))) (ho : EX X cs o (.obj Cl fs)) (hl : fs.lookup m = none)
    (ha : EA X cs es ds) (h : R (.obj Cl fs :: ds) (fun o => o = .ret (.lst xs))) : EO X cs (.Call (.Attribute o m apos) es [] pos) xs := fun He Hb H0 H σ Q s q =>
  wE_of hp (ho _ _ _ _ _ _ s fun x H1 H01 g1 r1 => by
    cases r1 with
    | obj h1 r1 =>
      refine ⟨_, _, _, rfl, g1.i _ _ h1, r1.nolook hl, ?_⟩
      refine ha _ _ _ _ _ _ (s.grow g1) fun vs H2 H02 g2 r2 => ?_
      have gg := g1.trans g2
      exact ⟨H02, _, _, g2.i, by rw [List.append_nil]; exact .cons (.obj (g2.b _ _ h1) (r1.mono g2.b)) r2, h, fun ds' l ws H3 H03 e g3 hl h0 h1 rw => by cases e; exact q _ _ _ _ (gg.trans g3) (gg.h.free hl) h0 h1 rw, fun _ _ e => nomatch e⟩)
theorem eo_meth0 {Cl : Addr} {fs : List (Str × D)} {m : Str} (hp : PE X (.Call (.Attribute o m apos) [] [] pos) (tMeth Cl m (spN X.K R) [] E (wE X o) tNil)) (ho : EX X cs o (.obj Cl fs)) (hl : fs.lookup m = none)
    (h : R [.obj Cl fs] (fun o => o = .ret (.lst xs))) : EO X cs (.Call (.Attribute o m apos) [] [] pos) xs := fun He Hb H0 H σ Q s q =>
  wE_of hp (ho _ _ _ _ _ _ s fun x H1 H01 g1 r1 => by
    cases r1 with
    | obj h1 r1 =>
      refine ⟨_, _, _, rfl, g1.i _ _ h1, r1.nolook hl, ?_⟩
      exact ⟨H01, _, _, g1.i, by rw [List.append_nil]; exact .cons (.obj h1 r1) .nil, h, fun ds' l ws H3 H03 e g3 hl h0 h1 rw => by cases e; exact q _ _ _ _ (g1.trans g3) (g1.h.free hl) h0 h1 rw, fun _ _ e => nomatch e⟩)
theorem eo_call {e : Expr} {p : Pos} {x : Str} {k : Nat} {CX : CXT} (F : FnN X.prog X.w X.K X.mg X.base CX k x R) (hr : Room k X.A) (hx : Passes CX X E) (ha : EA X cs (e :: es) ds) (h : R ds (fun o => o = .ret (.lst xs))) (hg : Gl X x := by rfl) (hdb : (x == ("__debug__" : Str)) = false := by decide) (hs : Pl e := by intro _ _; rfl)
    (hpl : (backTo pos (starEach es X.env)).any (·.1) = false := by rfl) : EO X cs (.Call (.Name x p) (e :: es) [] pos) xs := fun He Hb H0 H σ Q s q => by
  obtain ⟨f, fd, ps, ok, hm, hk, hb⟩ := F.ex
  exact wE_of (pe_call ok hr hg hm hk hb .nil hx pa_w hdb (hs _ _) hpl) (ha _ _ _ _ _ _ s fun vs H1 H01 g1 r1 => ⟨H01, ds, _, g1.i, by rw [List.append_nil]; exact r1, h, fun ds' l ws H3 H03 e g3 hl h0 h1 rw => by cases e; exact q _ _ _ _ (g1.trans g3) (g1.h.free hl) h0 h1 rw, fun _ _ e => nomatch e⟩)
end

/-! a def that changes the list that it is handed in its place m -/
def drop1 (H : Hp) (l : Addr) : Hp := fun a => if a = l then none else H a
theorem drop1_sub {H : Hp} {l : Addr} : Same (drop1 H l) H := fun a o e => by
  unfold drop1 at e
  by_cases h : a = l
  · rw [if_pos h] at e; cases e
  · rw [if_neg h] at e; exact e
theorem sub_drop1 {H0 H : Hp} {l : Addr} (i : Same H0 H) (h : H0 l = none) : Same H0 (drop1 H l) := fun a o e => by
  unfold drop1
  rw [if_neg (fun z => by rw [z, h] at e; cases e)]
  exact i a o e
def spO (K : PySem.W.Frag) (R : List D → List D → List D → (D → Prop) → Prop) : Sp := fun vs H Q _ => ∃ (H0 : Hp) (as bs : List V) (da db xs : List D) (l : Addr) (ws : List V) (post : D → Prop), vs = as ++ .ref l :: bs ∧ Same H0 H ∧ H0 l = none ∧ H l = some (.lst ws) ∧ RepA K H0 ws xs ∧ RepA K H0 as da ∧ RepA K H0 bs db ∧ R da xs db post ∧
  ∀ d v H' H0', post d → Grow H0 (drop1 H l) H0' H' → Rep K H0' v d → Q v H'
theorem RepA.app {K : PySem.W.Frag} {H : Hp} : ∀ {as : List V} {da : List D} {bs : List V} {db : List D}, RepA K H as da → RepA K H bs db → RepA K H (as ++ bs) (da ++ db)
  | _, _, _, _, .nil, r => r
  | _, _, _, _, .cons h t, r => .cons h (RepA.app t r)
theorem sr_startO {K : PySem.W.Frag} {H0 H : Hp} {N : List Str} {as bs ws : List V} {da db xs : List D} {l : Addr} (i : Same H0 H) (h0 : H0 l = none) (h : H l = some (.lst ws)) (rx : RepA K H0 ws xs) (ra : RepA K H0 as da) (rb : RepA K H0 bs db) (hl : (as ++ .ref l :: bs).length ≤ N.length) :
    SR K H0 (drop1 H l) H0 H (start N (as ++ .ref l :: bs)) ((ent N.length (da ++ .opq l :: db)).set da.length (.ol xs)) := by
  have e1 := ra.len
  have e2 := rb.len
  have s := sr_start (N := N) i (ra.app (.cons (.opq l) rb)) (by simpa [e1, e2] using hl)
  have noown : ∀ (j : Nat) (c : C), (ent N.length (da ++ .opq l :: db))[j]? = some c → c.own = true → False := fun j c e o => by
    unfold ent at e
    have m := List.mem_of_getElem? e
    rcases List.mem_append.mp m with m | m
    · obtain ⟨d, _, e⟩ := List.mem_map.mp m
      rw [← e] at o
      cases o
    · rw [(List.mem_replicate.mp m).2] at o
      cases o
  have s2 : SR K H0 (drop1 H l) H0 H (start N (as ++ .ref l :: bs)) (ent N.length (da ++ .opq l :: db)) := by
    refine ⟨⟨s.gr.b, s.gr.i, drop1_sub, fun a o e => .inl e⟩, s.len, s.sl, fun j c l' e o _ => (noown j c e o).elim, fun j k c c' l' _ e _ o _ _ _ => (noown j c e o).elim⟩
  have hb : drop1 H l l = none := by unfold drop1; rw [if_pos rfl]
  have z := s2.setOwn (i := da.length) (l := l) (c0 := .ol xs) hb ⟨l, ws, rfl, h0, h, rx⟩ fun j c _ e o => (noown j c e o).elim
  have e : (start N (as ++ .ref l :: bs)).set da.length (some (.ref l)) = start N (as ++ .ref l :: bs) := by
    refine List.ext_getElem? fun j => ?_
    by_cases hj : da.length = j
    · subst hj
      have h1 : as.length < (as ++ V.ref l :: bs).length := by simp
      have h2 : (start N (as ++ .ref l :: bs))[da.length]? = some (some (.ref l)) := by
        unfold L2.start
        rw [List.getElem?_append_left (by rw [List.length_map, ← e1]; exact h1), List.getElem?_map, ← e1, List.getElem?_append_right (Nat.le_refl _)]
        simp
      rw [List.getElem?_set_self (List.getElem?_eq_some_iff.mp h2).1, h2]
    · rw [List.getElem?_set_ne hj]
  rw [e] at z
  exact z
section
variable {P : Program} {w : World} {K : PySem.W.Frag} {mg : Str → Option Value} {base : Heap}
theorem fn_okO {x qual : Str} {st : Stmt} {f : Addr} {fd : FuncData} {N ps : List Str} {k : Nat} {R : List D → List D → List D → (D → Prop) → Prop} (F : Fun K x qual st f fd) (S : FnScope N ps (defScope st)) (hl : ∀ da xs db post, R da xs db post → da.length + (1 + db.length) = ps.length) (hps : ps.length ≤ N.length)
    (hb : ∀ (X : Cx) da xs db l post, (∃ cdv A outer s H E, X = (cxOf CX0 P w K mg base N qual (defScope st) f cdv A outer s H E).nox) → Room k X.A → R da xs db post → SXs X ((ent N.length (da ++ .opq l :: db)).set da.length (.ol xs)) (defBody st) { nx := fun _ => post .non, rt := post }) : FnOk P w K mg base CX0 (k + 1) f fd ps (spO K R) := by
  refine F.ok S (fun vs H Q E h => ?_) (fun cdv A outer s H vs Q E hr h => ?_)
  · obtain ⟨H0, as, bs, da, db, xs, l, ws, post, rfl, _, _, _, _, ra, rb, h, _⟩ := h
    have := hl _ _ _ _ h
    rw [List.length_append, List.length_cons, ra.len, rb.len]
    omega
  · obtain ⟨H0, as, bs, da, db, xs, l, ws, post, rfl, i, h0, h1, rx, ra, rb, h, k1⟩ := h
    have hz := hl _ _ _ _ h
    refine ⟨_, pss_w, hb _ da xs db l post ⟨_, _, _, _, _, _, rfl⟩ hr h _ _ _ _ _ _ (sr_startO i h0 h1 rx ra rb (by rw [List.length_append, List.length_cons, ra.len, rb.len]; omega)) ⟨fun cs H0' H' σ' e s' z => k1 .non .non H' H0' z s'.gr .non, fun v d H0' H' g r z => k1 d v H' H0' z g r, fun _ _ _ _ _ _ z => z.elim, fun _ _ _ _ _ _ z => z.elim, takes_no⟩⟩
end
structure FnM (P : Program) (w : World) (K : PySem.W.Frag) (mg : Str → Option Value) (base : Heap) (k : Nat) (x : Str) (R : List D → List D → List D → (D → Prop) → Prop) : Prop where
  ex : ∃ f fd ps, FnOk P w K mg base CX0 k f fd ps (spO K R) ∧ mg x = some (.ref f) ∧ PySem.W.keepIn K (.ref f) = true ∧ Binds K fd ps []
/-- l's object may have changed; the slot that told of it is forgotten -/
theorem SR.lost {K : PySem.W.Frag} {He Hb H0 H H0' H' : Hp} {σ : St} {cs : List C} (s : SR K He Hb H0 H σ cs) {i : Nat} {l : Addr} {xs : List D} (hc : cs[i]? = some (.ol xs)) (hl : σ[i]? = some (some (.ref l))) (g : Grow H0 (drop1 H l) H0' H') : SR K He Hb H0' H' σ (cs.set i .any) := by
  have hbl : Hb l = Option.none := s.own i _ l hc rfl hl
  have z := s.setAny' i hl
  have out : ∀ (j : Nat) (c : C), (cs.set i .any)[j]? = some c → c.own = true → i ≠ j ∧ cs[j]? = some c := fun j c e o => by
    by_cases hj : i = j
    · subst hj
      have hi := (List.getElem?_eq_some_iff.mp hc).1
      rw [List.getElem?_set_self hi] at e
      cases e
      cases o
    · rw [List.getElem?_set_ne hj] at e
      exact ⟨hj, e⟩
  refine ⟨⟨s.gr.b.trans g.b, g.i, (sub_drop1 s.gr.h hbl).trans g.h, fun a o e => ?_⟩, z.len, fun j c e => ?_, z.own, z.dis⟩
  · rcases g.n a o e with h | h | h
    · exact s.gr.n a o h
    · unfold drop1 at h
      by_cases hz : a = l
      · rw [hz]; exact .inr (.inl hbl)
      · rw [if_neg hz] at h
        exact .inr (.inl (s.gr.h.free h))
    · exact .inr (.inr h)
  · have q := z.sl j c e
    cases c with
    | any => trivial
    | sh d => obtain ⟨v, e1, e2⟩ := q; exact ⟨v, e1, e2.mono g.b⟩
    | ol ds =>
      obtain ⟨l', vs, e1, h0, h1, r⟩ := q
      obtain ⟨hj, e2⟩ := out j _ e rfl
      have hne : l' ≠ l := fun e3 => s.dis i j _ _ l hj hc e2 rfl rfl hl (by rw [← e3]; exact e1)
      have h1' : drop1 H l l' = some (.lst vs) := by unfold drop1; rw [if_neg hne]; exact h1
      exact ⟨l', vs, e1, not_tup g h0 h1' (fun xs z => by cases z), g.h _ _ h1', r.mono g.b⟩
    | od ds =>
      obtain ⟨l', vs, e1, h0, h1, r⟩ := q
      obtain ⟨hj, e2⟩ := out j _ e rfl
      have hne : l' ≠ l := fun e3 => s.dis i j _ _ l hj hc e2 rfl rfl hl (by rw [← e3]; exact e1)
      have h1' : drop1 H l l' = some (.dT vs) := by unfold drop1; rw [if_neg hne]; exact h1
      exact ⟨l', vs, e1, not_tup g h0 h1' (fun xs z => by cases z), g.h _ _ h1', r.mono g.b⟩
section
variable {X : Cx} {cs : List C} {a c : Expr} {A : List Stmt} {p px pos pos2 pos3 : Pos} {xs : List D} {da dc : D} {R : List D → List D → List D → (D → Prop) → Prop} {F : DE}
/-- if not f(a, x, c): .., where f says True and changes x's list -/
theorem sx_ifM {k : Nat} {x fx : Str} (i : Nat) (Fn : FnM X.prog X.w X.K X.mg X.base k fx R) (hr : Room k X.A) (hc : cs[i]? = some (.ol xs)) (ha : EX X cs a da) (hcc : EX X cs c dc) (h : R [da] xs [dc] (fun d => d = .bl true)) (hn : F.nx (cs.set i .any))
    (hN : X.N[i]? = some x := by rfl) (hv : Vis X.env.scope x := by first | exact Or.inl rfl | exact Or.inr (Or.inl rfl) | exact Or.inr (Or.inr rfl)) (hg : Gl X fx := by rfl) (hdb : (fx == ("__debug__" : Str)) = false := by decide) (hs : Pl a := by intro _ _; rfl)
    (hd : (x == ("__debug__" : Str)) = false := by decide) (hcd : (x == ("__classdict__" : Str)) = false := by decide)
    (hs2 : Pl (.Name x px) := by intro _ _; rfl) (hs3 : Pl c := by intro _ _; rfl)
    (hpl : (backTo pos (starEach [.Name x px, c] X.env)).any (·.1) = false := by rfl) : SX X cs (.If (.UnaryOp .Not (.Call (.Name fx p) [a, .Name x px, c] [] pos) pos2) A [] pos3) F := fun He Hb H0 H σ E s q => by
  obtain ⟨f, fd, ps, ok, hm, hk, hb⟩ := Fn.ex
  refine wS_of (ps_if (pt_not (pt_val (pe_call ok hr hg hm hk hb .nil (pass0 : Passes CX0 X E0) (pa_cons pe_w (pa_cons (pe_var hN hv hd hcd) (pa_cons pe_w pa_nil (hs3 _ _)) (hs2 _ _)) (hs _ _)) hdb (hs _ _) hpl))) pss_w pss_nil) ?_
  refine ha _ _ _ _ _ _ s fun v1 H1 H01 g1 r1 => ?_
  have s1 := s.grow g1
  obtain ⟨l, ws, e, h0, h1, rx⟩ := s1.sl i _ hc
  refine ⟨.ref l, e, ?_⟩
  refine hcc _ _ _ _ _ _ s1 fun v3 H3 H03 g3 r3 => ?_
  have s3 := s1.grow g3
  obtain ⟨l', ws', e', h0', h1', rx'⟩ := s3.sl i _ hc
  rw [e] at e'
  cases e'
  refine ⟨H03, [v1], [v3], [da], [dc], xs, l, ws', _, rfl, g3.i, h0', h1', rx', .cons (r1.mono g3.b) .nil, .cons r3 .nil, h, fun d v H' H0' e g r => ?_⟩
  subst e
  cases r
  refine ⟨true, rfl, ?_⟩
  show (if (!true) = true then wSs X A E σ H' else tNext E σ H')
  rw [if_neg (by simp)]
  exact q.nx _ _ _ _ ((g1.b.trans g3.b).trans g.b) (s3.lost hc e g) hn
end
end DL

end
section
set_option maxHeartbeats 4000000
namespace Lw
open PySem PySem.Spec L2 DL
/-- the classes that the law asks of an error; cl: the seven, te: what is over them -/
structure OnlyK (K : PySem.W.Frag) (mg : Str → Option Value) (cl : Nat → Addr) (te : Addr) (is : List Nat) : Prop where
  lt : ∀ i ∈ is, i < 7
  isinst : mg "isinstance" = none
  g0 : mg "NoPoints" = some (.ref (cl 0))
  g1 : mg "NoPoint" = some (.ref (cl 1))
  g2 : mg "NoTie" = some (.ref (cl 2))
  g3 : mg "TwiceTold" = some (.ref (cl 3))
  g4 : mg "NoArrow" = some (.ref (cl 4))
  g5 : mg "Round" = some (.ref (cl 5))
  g6 : mg "Clash" = some (.ref (cl 6))
  gt : mg "TieError" = some (.ref te)
  gv : mg "ValueError" = none
  exc : ∀ i ∈ is, ExcC K (cl i)
  one : ∀ i ∈ is, ∀ j, j < 7 → PySem.W.kitOne K (.ref (cl i)) (.ref (cl j)) = some (decide (i = j))
  up : ∀ i ∈ is, PySem.W.kitOne K (.ref (cl i)) (.ref te) = some true
  val : ∀ i ∈ is, PySem.W.kitOne K (.ref (cl i)) (.type "ValueError") = some true
abbrev rOnly (cl : Nat → Addr) (is : List Nat) : Addr × Obj → List D → (D → Prop) → Prop := fun q ds post => ∃ i j : Nat, ds = [.opq q.1, .int j] ∧ (i ∈ is ∧ j < 7 ∧ L2N.Zn (.ref (cl i)) none q.2 ∧ ∃ vs, q.2.data = .fields vs) ∧ post (.bl (decide (i = j)))
theorem only_count : ∀ i, i < 7 → ((List.range 7).map fun j => decide (i = j)).count true = 1 := by decide
section
variable {P : Program} {w : World} {K : PySem.W.Frag} {mg : Str → Option Value} {base : Heap} {cl : Nat → Addr} {te : Addr} {is : List Nat}
end
end Lw

end
section
set_option maxHeartbeats 2000000
namespace DL
open PySem PySem.Spec L2
abbrev G := Int × Int → Bool
/-- an entry set -/
def ug (g : G) (k : Int × Int) (v : Bool) : G := fun x => if x = k then v else g x
abbrev sq (n : Nat) : List (Int × Int) := rows n fun _ => n
abbrev tri (n : Nat) : List (Int × Int) := rows n fun a => a
def aboveG (f s : List Int) : G := fun x => decide (f.getD x.1.toNat 0 < f.getD x.2.toNat 0) && decide (s.getD x.1.toNat 0 < s.getD x.2.toNat 0)
def anyG (n : Nat) (c : Int) : G := fun x => bit c (x.1 * n + x.2)
def upG (n : Nat) (c : Int) : G := fun x => decide (x.1 < x.2) && bit c (x.1 * n + x.2)
def sidesG (n : Nat) (c : Int) : G := fun x => (!decide (x.1 % 2 = x.2 % 2)) && bit c (x.1 * n + x.2)
def rStep (m a b : Nat) (g : G) : G := if (g ((a : Int), (m : Int)) && g ((m : Int), (b : Int))) = true then ug g ((a : Int), (b : Int)) true else g
def rB (m a : Nat) : Nat → G → G
  | 0, g => g
  | k + 1, g => rStep m a (m + 1 + k) (rB m a k g)
def rA (n m : Nat) : Nat → G → G
  | 0, g => g
  | a + 1, g => rB m a (n - (m + 1)) (rA n m a g)
def rM (n : Nat) : Nat → G → G
  | 0, g => g
  | m + 1, g => rA n m m (rM n m g)
def reachG (n : Nat) (c : Int) : G := rM n n (upG n c)
def treeK (c : Int) : Nat → List (Int × Int)
  | 0 => []
  | k + 1 => treeK c k ++ [(1 + (k : Int), drawn (c + 3) (1 + (k : Int)) % (1 + (k : Int)))]
theorem treeK_len (c : Int) : ∀ n, (treeK c n).length = n
  | 0 => rfl
  | n + 1 => by rw [treeK, List.length_append, treeK_len c n]; rfl
theorem treeK_mem {c : Int} {n : Nat} {x : Int × Int} (h : x ∈ treeK c n) : 1 ≤ x.1 ∧ x.1 ≤ n ∧ 0 ≤ x.2 ∧ x.2 < x.1 := by
  induction n with
  | zero => cases h
  | succ n ih =>
    rcases List.mem_append.mp h with h | h
    · have := ih h
      omega
    · rw [List.mem_singleton.mp h]
      refine ⟨by show 1 ≤ 1 + (n : Int); omega, by show 1 + (n : Int) ≤ ((n + 1 : Nat) : Int); omega, Int.emod_nonneg _ (by omega), Int.emod_lt_of_pos _ (by omega)⟩
theorem treeK_no {c : Int} {n : Nat} {y : Int} : (1 + (n : Int), y) ∉ treeK c n := fun h => by
  have := (treeK_mem h).2.1
  simp only at this
  omega
def chord (n : Nat) (c : Int) (i : Nat) : Bool := decide (c % 3 = 1) && (decide (0 < (i : Int)) && decide (6 < (n : Int)))
def ringK (n : Nat) (c : Int) : Nat → List (Int × Int)
  | 0 => []
  | i + 1 => ringK n c i ++ [((i : Int), ((i : Int) + 1) % n)] ++ (if chord n c i = true then [((i : Int), ((i : Int) + 3) % n)] else [])
def ringG (n : Nat) (c : Int) : G := fun x => if x.2 = (x.1 + 1) % n then true else bit c x.1
theorem ringK_len (n : Nat) (c : Int) : ∀ i, (ringK n c i).length ≤ 2 * i
  | 0 => Nat.le_refl _
  | i + 1 => by
    have := ringK_len n c i
    rw [ringK]
    split
    · simp only [List.length_append, List.length_singleton]; omega
    · simp only [List.length_append, List.length_singleton, List.length_nil]; omega
theorem ringK_mem {n : Nat} {c : Int} {i : Nat} {x : Int × Int} (h : x ∈ ringK n c i) : ∃ j : Nat, j < i ∧ x.1 = j ∧ (x.2 = ((j : Int) + 1) % n ∨ (chord n c j = true ∧ x.2 = ((j : Int) + 3) % n)) := by
  induction i with
  | zero => cases h
  | succ i ih =>
    rw [ringK] at h
    rcases List.mem_append.mp h with h | h
    · rcases List.mem_append.mp h with h | h
      · obtain ⟨j, h1, h2⟩ := ih h
        exact ⟨j, by omega, h2⟩
      · rw [List.mem_singleton.mp h]
        exact ⟨i, by omega, rfl, .inl rfl⟩
    · split at h
      · rename_i hc
        rw [List.mem_singleton.mp h]
        exact ⟨i, by omega, rfl, .inr ⟨hc, rfl⟩⟩
      · cases h
theorem ring13 {n : Nat} {i : Int} (hn : 6 < (n : Int)) (h0 : 0 ≤ i) (h1 : i < n) : (i + 1) % n ≠ (i + 3) % n := by
  intro e
  have e1 : (i + 1) % (n : Int) = if i + 1 < n then i + 1 else i + 1 - n := by
    split
    · exact Int.emod_eq_of_lt (by omega) (by omega)
    · rw [← Int.sub_emod_right]; exact Int.emod_eq_of_lt (by omega) (by omega)
  have e3 : (i + 3) % (n : Int) = if i + 3 < n then i + 3 else i + 3 - n := by
    split
    · exact Int.emod_eq_of_lt (by omega) (by omega)
    · rw [← Int.sub_emod_right]; exact Int.emod_eq_of_lt (by omega) (by omega)
  rw [e1, e3] at e
  split at e <;> split at e <;> omega
theorem ringK_no {n : Nat} {c : Int} {i : Nat} {y : Int} : ((i : Int), y) ∉ ringK n c i := fun h => by
  obtain ⟨j, h1, h2, _⟩ := ringK_mem h
  simp only at h2
  omega
def madeK (way : Int) (n : Nat) (c : Int) : List (Int × Int) :=
  if way < 2 then tri n else if way < 4 then sq n else if way = 4 then treeK c (n - 1) else if way = 5 then ringK n c n else if way = 6 then sq n else tri n
def madeG (way : Int) (n : Nat) (c : Int) : G :=
  if way < 2 then anyG n c else if way < 4 then aboveG (order c n) (order (c / 7 + 5) n) else if way = 4 then (fun _ => true) else if way = 5 then ringG n c else if way = 6 then reachG n c else sidesG n c
end DL

end
section
set_option maxHeartbeats 2000000
namespace DL
open PySem PySem.Spec L2
abbrev sw (p : Int × Int) : Int × Int := (p.2, p.1)
/-- ties of n points, none told twice either way about -/
def Tied (n : Int) (ts : List (Int × Int)) : Prop := (∀ t ∈ ts, 0 ≤ t.1 ∧ t.1 < n ∧ 0 ≤ t.2 ∧ t.2 < n ∧ t.1 ≠ t.2) ∧ ts.Pairwise fun s t => s ≠ t ∧ s ≠ sw t
theorem Tied.perm {n : Int} {ts us : List (Int × Int)} (h : Tied n ts) (p : us.Perm ts) : Tied n us := by
  refine ⟨fun t ht => h.1 t (p.mem_iff.mp ht), (p.pairwise_iff ?_).mpr h.2⟩
  rintro x y ⟨h1, h2⟩
  exact ⟨fun e => h1 e.symm, fun e => h2 (by rw [e])⟩
/-- the law's ties, one key more -/
def tieOf (nm : List Int) (c : Int) (len : Nat) (k : Int × Int) : Int × Int :=
  if bit c (len : Int) = true then (nm.getD k.2.toNat 0, nm.getD k.1.toNat 0) else (nm.getD k.1.toNat 0, nm.getD k.2.toNat 0)
def tieStep (g : G) (nm : List Int) (c : Int) (ts : List (Int × Int)) (k : Int × Int) : List (Int × Int) :=
  if g k = true then ins ts (drawn (c + 9) (ts.length : Int) % ((ts.length : Int) + 1)) (tieOf nm c ts.length k) else ts
def tiesOf (g : G) (nm : List Int) (c : Int) (keys : List (Int × Int)) : List (Int × Int) := keys.foldl (tieStep g nm c) []
theorem tiesOf_snoc {g : G} {nm : List Int} {c : Int} {keys : List (Int × Int)} {k : Int × Int} : tiesOf g nm c (keys ++ [k]) = tieStep g nm c (tiesOf g nm c keys) k := by
  unfold tiesOf
  rw [List.foldl_append]
  rfl
theorem tiesOf_len {g : G} {nm : List Int} {c : Int} {keys : List (Int × Int)} : (tiesOf g nm c keys).length ≤ keys.length := by
  suffices h : ∀ (keys ts : List (Int × Int)), (keys.foldl (tieStep g nm c) ts).length ≤ ts.length + keys.length by
    have := h keys []
    simpa [tiesOf] using this
  intro keys
  induction keys with
  | nil => intro ts; simp
  | cons k r ih =>
    intro ts
    have := ih (tieStep g nm c ts k)
    have h2 : (tieStep g nm c ts k).length ≤ ts.length + 1 := by
      unfold tieStep
      split
      · rw [ins_len]; exact Nat.le_refl _
      · omega
    rw [List.foldl_cons, List.length_cons]
    omega
/-- no key stands for a tie that another stands for -/
def Anti (n : Nat) (keys : List (Int × Int)) (g : G) : Prop := keys.Nodup ∧ ∀ k ∈ keys, (0 ≤ k.1 ∧ k.1 < n ∧ 0 ≤ k.2 ∧ k.2 < n) ∧ (g k = true → k.1 ≠ k.2 ∧ ((k.2, k.1) ∈ keys → g (k.2, k.1) = false))
theorem getD_inj {l : List Int} (nd : l.Nodup) {i j : Int} (hi : 0 ≤ i ∧ i < l.length) (hj : 0 ≤ j ∧ j < l.length) (e : l.getD i.toNat 0 = l.getD j.toNat 0) : i = j := by
  have h1 : i.toNat < l.length := by omega
  have h2 : j.toNat < l.length := by omega
  rw [List.getD_eq_getElem?_getD, List.getD_eq_getElem?_getD, List.getElem?_eq_getElem h1, List.getElem?_eq_getElem h2] at e
  have := (List.getElem_inj nd).mp (show l[i.toNat] = l[j.toNat] from e)
  omega
theorem getD_mem {l : List Int} {i : Int} (hi : 0 ≤ i ∧ i < l.length) : l.getD i.toNat 0 ∈ l := by
  have h1 : i.toNat < l.length := by omega
  rw [List.getD_eq_getElem?_getD, List.getElem?_eq_getElem h1]
  exact List.getElem_mem h1
theorem ties_tied {n : Nat} {nm : List Int} {g : G} {c : Int} {keys : List (Int × Int)} (hl : nm.length = n) (nd : nm.Nodup) (hm : ∀ x ∈ nm, 0 ≤ x ∧ x < (n : Int)) (ha : Anti n keys g) : Tied n (tiesOf g nm c keys) := by
  have main : ∀ (m : Nat), m ≤ keys.length → Tied n (tiesOf g nm c (keys.take m)) ∧ ∀ t ∈ tiesOf g nm c (keys.take m), ∃ k ∈ keys.take m, g k = true ∧ (t = (nm.getD k.1.toNat 0, nm.getD k.2.toNat 0) ∨ t = (nm.getD k.2.toNat 0, nm.getD k.1.toNat 0)) := by
    intro m
    induction m with
    | zero => intro _; simp [tiesOf, Tied]
    | succ m ih =>
      intro hm1
      obtain ⟨h1, h2⟩ := ih (by omega)
      have hlt : m < keys.length := by omega
      rw [List.take_succ_eq_append_getElem hlt, tiesOf_snoc]
      have hk : keys[m] ∈ keys := List.getElem_mem hlt
      obtain ⟨hr, hg⟩ := ha.2 _ hk
      have hnew : keys[m] ∉ keys.take m := by
        intro z
        obtain ⟨i, hi, e⟩ := List.mem_take_iff_getElem.mp z
        have := (List.getElem_inj ha.1).mp e
        omega
      generalize keys[m] = k at hk hr hg hnew ⊢
      unfold tieStep
      split
      · rename_i hgk
        obtain ⟨hne, hsw⟩ := hg hgk
        have l1 : 0 ≤ k.1 ∧ k.1 < nm.length := by omega
        have l2 : 0 ≤ k.2 ∧ k.2 < nm.length := by omega
        have ht : tieOf nm c (tiesOf g nm c (keys.take m)).length k = (nm.getD k.1.toNat 0, nm.getD k.2.toNat 0) ∨ tieOf nm c (tiesOf g nm c (keys.take m)).length k = (nm.getD k.2.toNat 0, nm.getD k.1.toNat 0) := by
          unfold tieOf
          split
          · exact .inr rfl
          · exact .inl rfl
        generalize tieOf nm c (tiesOf g nm c (keys.take m)).length k = t at ht
        have hin : 0 ≤ t.1 ∧ t.1 < (n : Int) ∧ 0 ≤ t.2 ∧ t.2 < (n : Int) ∧ t.1 ≠ t.2 := by
          have a1 := hm _ (getD_mem l1)
          have a2 := hm _ (getD_mem l2)
          have a3 : nm.getD k.1.toNat 0 ≠ nm.getD k.2.toNat 0 := fun e => hne (getD_inj nd l1 l2 e)
          rcases ht with e | e
          · rw [e]; exact ⟨a1.1, a1.2, a2.1, a2.2, a3⟩
          · rw [e]; exact ⟨a2.1, a2.2, a1.1, a1.2, a3.symm⟩
        have hdiff : ∀ s ∈ tiesOf g nm c (keys.take m), t ≠ s ∧ t ≠ sw s := by
          intro s hs
          obtain ⟨k', hk', hg', e'⟩ := h2 s hs
          have hk'' := List.mem_of_mem_take hk'
          have hr' := (ha.2 _ hk'').1
          have l3 : 0 ≤ k'.1 ∧ k'.1 < nm.length := by omega
          have l4 : 0 ≤ k'.2 ∧ k'.2 < nm.length := by omega
          have no : ¬ ((nm.getD k.1.toNat 0 = nm.getD k'.1.toNat 0 ∧ nm.getD k.2.toNat 0 = nm.getD k'.2.toNat 0) ∨ (nm.getD k.1.toNat 0 = nm.getD k'.2.toNat 0 ∧ nm.getD k.2.toNat 0 = nm.getD k'.1.toNat 0)) := by
            rintro (⟨e1, e2⟩ | ⟨e1, e2⟩)
            · have q1 := getD_inj nd l1 l3 e1
              have q2 := getD_inj nd l2 l4 e2
              exact hnew (by rw [show k = k' from Prod.ext q1 q2]; exact hk')
            · have q1 := getD_inj nd l1 l4 e1
              have q2 := getD_inj nd l2 l3 e2
              have e : (k.2, k.1) = k' := Prod.ext q2 q1
              have := hsw (by rw [e]; exact hk'')
              rw [e, hg'] at this
              cases this
          rcases ht with e | e <;> rcases e' with e2 | e2 <;> rw [e, e2] <;> refine ⟨fun q => no ?_, fun q => no ?_⟩ <;> simp only [sw, Prod.mk.injEq] at q
          · exact .inl q
          · exact .inr q
          · exact .inr q
          · exact .inl q
          · exact .inr ⟨q.2, q.1⟩
          · exact .inl ⟨q.2, q.1⟩
          · exact .inl ⟨q.2, q.1⟩
          · exact .inr ⟨q.2, q.1⟩
        refine ⟨Tied.perm (ts := t :: tiesOf g nm c (keys.take m)) ⟨fun s hs => ?_, List.pairwise_cons.mpr ⟨hdiff, h1.2⟩⟩ (ins_perm _ _ _), fun s hs => ?_⟩
        · rcases List.mem_cons.mp hs with e | hs
          · rw [e]; exact hin
          · exact h1.1 s hs
        · rcases List.mem_cons.mp ((ins_perm _ _ _).mem_iff.mp hs) with e | hs
          · exact ⟨k, by simp, hgk, by rw [e]; exact ht⟩
          · obtain ⟨k', hk', q⟩ := h2 s hs
            exact ⟨k', List.mem_append_left _ hk', q⟩
      · refine ⟨h1, fun s hs => ?_⟩
        obtain ⟨k', hk', q⟩ := h2 s hs
        exact ⟨k', List.mem_append_left _ hk', q⟩
  have := (main keys.length (Nat.le_refl _)).1
  rwa [List.take_length] at this

/-! the eight ways keep it -/
theorem anti_tri (n : Nat) (g : G) : Anti n (tri n) g := by
  refine ⟨rows_nd _ _, fun k hk => ?_⟩
  obtain ⟨a, b, ha, hb, rfl⟩ := rows_mem.mp hk
  refine ⟨⟨by simp, by simp; omega, by simp, by simp; omega⟩, fun _ => ⟨by simp; omega, fun h => ?_⟩⟩
  obtain ⟨a', b', ha', hb', e⟩ := rows_mem.mp h
  have e1 := congrArg Prod.fst e
  have e2 := congrArg Prod.snd e
  simp only at e1 e2
  omega
theorem anti_above (n : Nat) (f s : List Int) : Anti n (sq n) (aboveG f s) := by
  refine ⟨rows_nd _ _, fun k hk => ?_⟩
  obtain ⟨a, b, ha, hb, rfl⟩ := rows_mem.mp hk
  refine ⟨⟨by simp, by simp; omega, by simp, by simp; omega⟩, fun h => ?_⟩
  unfold aboveG at h ⊢
  simp only [Int.toNat_natCast, Bool.and_eq_true, decide_eq_true_eq] at h ⊢
  refine ⟨fun e => ?_, fun _ => ?_⟩
  · have : a = b := by omega
    subst this
    omega
  · rw [Bool.and_eq_false_iff]
    left
    exact decide_eq_false (by omega)
theorem rM_up (n : Nat) (g : G) (hg : ∀ k : Int × Int, g k = true → k.1 < k.2) : ∀ m, m ≤ n → ∀ k : Int × Int, rM n m g k = true → k.1 < k.2 := by
  have hB : ∀ (m a : Nat) (g : G), (∀ k : Int × Int, g k = true → k.1 < k.2) → ∀ j, ∀ k : Int × Int, rB m a j g k = true → k.1 < k.2 := by
    intro m a g hg j
    induction j with
    | zero => exact hg
    | succ j ih =>
      intro k h
      rw [rB, rStep] at h
      split at h
      · rename_i hc
        rw [Bool.and_eq_true] at hc
        unfold ug at h
        split at h
        · rename_i e
          rw [e]
          have h1 := ih _ hc.1
          have h2 := ih _ hc.2
          simp only at h1 h2 ⊢
          omega
        · exact ih k h
      · exact ih k h
  have hA : ∀ (n m : Nat) (g : G), (∀ k : Int × Int, g k = true → k.1 < k.2) → ∀ a, ∀ k : Int × Int, rA n m a g k = true → k.1 < k.2 := by
    intro n m g hg a
    induction a with
    | zero => exact hg
    | succ a ih => rw [rA]; exact hB m a _ ih _
  intro m
  induction m with
  | zero => intro _; exact hg
  | succ m ih => intro hm; rw [rM]; exact hA n m _ (ih (by omega)) _
theorem reach_up {n : Nat} {c : Int} {k : Int × Int} (h : reachG n c k = true) : k.1 < k.2 :=
  rM_up n (upG n c) (fun k h => by unfold upG at h; simp at h; exact h.1) n (Nat.le_refl _) k h
theorem anti_reach (n : Nat) (c : Int) : Anti n (sq n) (reachG n c) := by
  refine ⟨rows_nd _ _, fun k hk => ?_⟩
  obtain ⟨a, b, ha, hb, rfl⟩ := rows_mem.mp hk
  refine ⟨⟨by simp, by simp; omega, by simp, by simp; omega⟩, fun h => ?_⟩
  have h1 := reach_up h
  refine ⟨by omega, fun _ => Bool.eq_false_iff.mpr fun z => ?_⟩
  have := reach_up z
  simp only at h1 this
  omega
theorem anti_tree (n : Nat) (c : Int) : Anti n (treeK c (n - 1)) (fun _ => true) := by
  refine ⟨?_, fun k hk => ?_⟩
  · generalize n - 1 = m
    induction m with
    | zero => exact List.nodup_nil
    | succ m ih =>
      rw [treeK, List.nodup_append]
      refine ⟨ih, by simp, fun x hx y hy e => ?_⟩
      rw [List.mem_singleton.mp hy] at e
      rw [e] at hx
      exact treeK_no hx
  · have h := treeK_mem hk
    refine ⟨by omega, fun _ => ⟨by omega, fun z => ?_⟩⟩
    have := treeK_mem z
    simp only at this
    omega
theorem emod_cases {n x : Int} (hn : 0 < n) (h0 : 0 ≤ x) (h1 : x < 2 * n) : x % n = if x < n then x else x - n := by
  split
  · exact Int.emod_eq_of_lt h0 (by assumption)
  · rw [← Int.sub_emod_right]; exact Int.emod_eq_of_lt (by omega) (by omega)
theorem anti_ring (n : Nat) (c : Int) (h3 : 3 ≤ n) : Anti n (ringK n c n) (ringG n c) := by
  have ch : ∀ {j : Nat}, chord n c j = true → 6 < n := fun {j} h => by unfold chord at h; simp at h; omega
  refine ⟨?_, fun k hk => ?_⟩
  · have hh : ∀ m, m ≤ n → (ringK n c m).Nodup := by
      intro m
      induction m with
      | zero => intro _; exact List.nodup_nil
      | succ m ih =>
        intro hm
        have h1 : (ringK n c m ++ [((m : Int), ((m : Int) + 1) % n)]).Nodup := by
          rw [List.nodup_append]
          refine ⟨ih (by omega), by simp, fun x hx y hy e => ?_⟩
          rw [List.mem_singleton.mp hy] at e
          rw [e] at hx
          exact ringK_no hx
        rw [ringK]
        split
        · rename_i hc
          rw [List.nodup_append]
          refine ⟨h1, by simp, fun x hx y hy e => ?_⟩
          rw [List.mem_singleton.mp hy] at e
          rw [e] at hx
          rcases List.mem_append.mp hx with z | z
          · exact ringK_no z
          · have := ch hc
            exact ring13 (by omega) (by omega) (by omega) (congrArg Prod.snd (List.mem_singleton.mp z)).symm
        · rw [List.append_nil]; exact h1
    exact hh n (Nat.le_refl _)
  · obtain ⟨j, hj, e1, e2⟩ := ringK_mem hk
    have hn : (0 : Int) < n := by omega
    have m1 := emod_cases (n := (n : Int)) (x := (j : Int) + 1) hn (by omega) (by omega)
    have m3 := emod_cases (n := (n : Int)) (x := (j : Int) + 3) hn (by omega) (by omega)
    have hb : 0 ≤ k.2 ∧ k.2 < n := by
      rcases e2 with e2 | ⟨_, e2⟩
      · rw [e2]; exact ⟨Int.emod_nonneg _ (by omega), Int.emod_lt_of_pos _ hn⟩
      · rw [e2]; exact ⟨Int.emod_nonneg _ (by omega), Int.emod_lt_of_pos _ hn⟩
    refine ⟨⟨by omega, by omega, hb.1, hb.2⟩, fun _ => ⟨?_, fun z => ?_⟩⟩
    · rcases e2 with e2 | ⟨hc, e2⟩
      · rw [e1, e2, m1]; split <;> omega
      · have := ch hc
        rw [e1, e2, m3]; split <;> omega
    · exfalso
      obtain ⟨i, hi, f1, f2⟩ := ringK_mem z
      simp only at f1 f2
      have q1 := emod_cases (n := (n : Int)) (x := (i : Int) + 1) hn (by omega) (by omega)
      have q3 := emod_cases (n := (n : Int)) (x := (i : Int) + 3) hn (by omega) (by omega)
      rcases e2 with e2 | ⟨hc, e2⟩
      · rcases f2 with f2 | ⟨hc2, f2⟩
        · rw [m1] at e2; rw [q1] at f2
          split at e2 <;> split at f2 <;> omega
        · have := ch hc2
          rw [m1] at e2; rw [q3] at f2
          split at e2 <;> split at f2 <;> omega
      · have := ch hc
        rcases f2 with f2 | ⟨hc2, f2⟩
        · rw [m3] at e2; rw [q1] at f2
          split at e2 <;> split at f2 <;> omega
        · rw [m3] at e2; rw [q3] at f2
          split at e2 <;> split at f2 <;> omega
theorem anti_made (way : Int) (n : Nat) (c : Int) (h : way = 5 → 3 ≤ n) : Anti n (madeK way n c) (madeG way n c) := by
  unfold madeK madeG
  split
  · exact anti_tri _ _
  split
  · exact anti_above _ _ _
  split
  · exact anti_tree _ _
  split
  · exact anti_ring _ _ (h (by assumption))
  split
  · exact anti_reach _ _
  · exact anti_tri _ _

/-! the net of a script -/
def wayOf (ns : List Int) : Int := cellAt ns 1 % 8
def roomOf (ns : List Int) : Int := 6 * (if decide (cellAt ns 1 / 8 % 8 = 1) = true then 1 else 0)
def widthOf (w : Int) : Int := ([11, 9, 11, 10, 19, 9, 10, 13] : List Int).getD w.toNat 0
def manyOf (ns : List Int) : Int := cellAt ns 0 % (widthOf (wayOf ns) + roomOf ns)
def netN (ns : List Int) : Nat := (if wayOf ns = 5 then 3 + manyOf ns else manyOf ns).toNat
def netT (ns : List Int) : List (Int × Int) := tiesOf (madeG (wayOf ns) (netN ns) (cellAt ns 2)) (order (cellAt ns 3) (netN ns)) (cellAt ns 2) (madeK (wayOf ns) (netN ns) (cellAt ns 2))
theorem way_bd (ns : List Int) : 0 ≤ wayOf ns ∧ wayOf ns < 8 := ⟨Int.emod_nonneg _ (by decide), Int.emod_lt_of_pos _ (by decide)⟩
theorem way_cases (ns : List Int) : wayOf ns = 0 ∨ wayOf ns = 1 ∨ wayOf ns = 2 ∨ wayOf ns = 3 ∨ wayOf ns = 4 ∨ wayOf ns = 5 ∨ wayOf ns = 6 ∨ wayOf ns = 7 := by have := way_bd ns; omega
theorem room_bd (ns : List Int) : 0 ≤ roomOf ns ∧ roomOf ns ≤ 6 := by unfold roomOf; split <;> decide
theorem width_bd (ns : List Int) : 9 ≤ widthOf (wayOf ns) ∧ widthOf (wayOf ns) ≤ 19 ∧ (wayOf ns = 5 → widthOf (wayOf ns) = 9) := by
  rcases way_cases ns with h | h | h | h | h | h | h | h <;> rw [h] <;> decide
theorem many_bd (ns : List Int) : 0 ≤ manyOf ns ∧ manyOf ns < widthOf (wayOf ns) + roomOf ns := by
  have h1 := room_bd ns
  have h2 := width_bd ns
  exact ⟨Int.emod_nonneg _ (by omega), Int.emod_lt_of_pos _ (by omega)⟩
theorem netN_eq (ns : List Int) : ((netN ns : Nat) : Int) = if wayOf ns = 5 then 3 + manyOf ns else manyOf ns := by
  have h := many_bd ns
  unfold netN
  split <;> omega
theorem netN_bd (ns : List Int) : netN ns ≤ 24 := by
  have h := many_bd ns
  have h1 := room_bd ns
  have h2 := width_bd ns
  have e := netN_eq ns
  split at e
  · rename_i h5
    have := h2.2.2 h5
    omega
  · omega
theorem netN_3 (ns : List Int) (h : wayOf ns = 5) : 3 ≤ netN ns := by
  have h0 := many_bd ns
  have e := netN_eq ns
  rw [if_pos h] at e
  omega
theorem madeK_len (way : Int) (n : Nat) (c : Int) (hn : n ≤ 30) : (madeK way n c).length ≤ 900 := by
  have tri_len : (tri n).length ≤ 900 := by
    have hh : ∀ k, k ≤ n → (rows k fun a => a).length ≤ k * n := fun k => by
      induction k with
      | zero => intro _; simp [rows]
      | succ k ih =>
        intro hk
        rw [rows_succ, List.length_append, List.length_map, List.length_range, Nat.succ_mul]
        have := ih (by omega)
        omega
    have := hh n (Nat.le_refl _)
    have := Nat.mul_le_mul hn hn
    show (rows n fun a => a).length ≤ 900
    omega
  have sq_len : (sq n).length ≤ 900 := by
    have : (sq n).length ≤ n * n := rows_len (fun _ => Nat.le_refl _)
    have := Nat.mul_le_mul hn hn
    omega
  unfold madeK
  split
  · exact tri_len
  split
  · exact sq_len
  split
  · rw [treeK_len]; omega
  split
  · have := ringK_len n c n; omega
  split
  · exact sq_len
  · exact tri_len
theorem net_tied (ns : List Int) : Tied (netN ns) (netT ns) :=
  ties_tied (order_len _ _) (order_nd _ _) (fun x hx => order_mem.mp hx) (anti_made _ _ _ (netN_3 ns))
theorem net_len (ns : List Int) : (netT ns).length ≤ 900 := Nat.le_trans tiesOf_len (madeK_len _ _ _ (Nat.le_trans (netN_bd ns) (by decide)))

/-! both ways about -/
def addK (keys : List (Int × Int)) (k : Int × Int) : List (Int × Int) := if k ∈ keys then keys else keys ++ [k]
theorem addK_mem {keys : List (Int × Int)} {k x : Int × Int} : x ∈ addK keys k ↔ x ∈ keys ∨ x = k := by
  unfold addK
  split
  · constructor
    · exact .inl
    · rintro (h | rfl)
      · exact h
      · assumption
  · simp
theorem addK_nd {keys : List (Int × Int)} {k : Int × Int} (h : keys.Nodup) : (addK keys k).Nodup := by
  unfold addK
  split
  · exact h
  · rename_i hk
    rw [List.nodup_append]
    exact ⟨h, by simp, fun x hx y hy e => hk (by rw [List.mem_singleton.mp hy] at e; rw [← e]; exact hx)⟩
theorem addK_len {keys : List (Int × Int)} {k : Int × Int} : (addK keys k).length ≤ keys.length + 1 := by
  unfold addK
  split
  · omega
  · simp
theorem put_addK {keys : List (Int × Int)} {k : Int × Int} : put (dk keys fun _ => true) k (.bl true) = dk (addK keys k) fun _ => true := by
  unfold addK
  split
  · rename_i h
    rw [put_old h]
    congr 1
    funext x
    split <;> rfl
  · rename_i h
    exact put_new h rfl
def bothK (ts : List (Int × Int)) : List (Int × Int) := ts.foldl (fun ks t => addK (addK ks t) (sw t)) []
theorem bothK_snoc {ts : List (Int × Int)} {t : Int × Int} : bothK (ts ++ [t]) = addK (addK (bothK ts) t) (sw t) := by unfold bothK; rw [List.foldl_append]; rfl
theorem bothK_spec : ∀ (m : Nat) (ts : List (Int × Int)), ts.length = m → (bothK ts).Nodup ∧ (bothK ts).length ≤ 2 * ts.length ∧ ∀ x, x ∈ bothK ts ↔ x ∈ ts ∨ sw x ∈ ts := by
  intro m
  induction m with
  | zero =>
    intro ts h
    rw [List.length_eq_zero_iff.mp h]
    exact ⟨List.nodup_nil, Nat.le_refl _, fun x => by simp [bothK]⟩
  | succ m ih =>
    intro ts h
    have hne : ts ≠ [] := fun z => by rw [z] at h; cases h
    have e := List.dropLast_concat_getLast hne
    have hl : ts.dropLast.length = m := by rw [List.length_dropLast, h]; rfl
    obtain ⟨i1, i2, i3⟩ := ih _ hl
    rw [← e, bothK_snoc]
    refine ⟨addK_nd (addK_nd i1), ?_, fun x => ?_⟩
    · have a1 := addK_len (keys := bothK ts.dropLast) (k := ts.getLast hne)
      have a2 := addK_len (keys := addK (bothK ts.dropLast) (ts.getLast hne)) (k := sw (ts.getLast hne))
      rw [List.length_append, List.length_singleton]
      omega
    · rw [addK_mem, addK_mem, i3 x, List.mem_append, List.mem_append, List.mem_singleton, List.mem_singleton]
      constructor
      · rintro ((( h | h) | h) | h)
        · exact .inl (.inl h)
        · exact .inr (.inl h)
        · exact .inl (.inr h)
        · exact .inr (.inr (by rw [h]))
      · rintro ((h | h) | (h | h))
        · exact .inl (.inl (.inl h))
        · exact .inl (.inr h)
        · exact .inl (.inl (.inr h))
        · exact .inr (by rw [← h])
theorem bothK_nd (ts : List (Int × Int)) : (bothK ts).Nodup := (bothK_spec _ ts rfl).1
theorem bothK_len (ts : List (Int × Int)) : (bothK ts).length ≤ 2 * ts.length := (bothK_spec _ ts rfl).2.1
theorem bothK_mem {ts : List (Int × Int)} {x : Int × Int} : x ∈ bothK ts ↔ x ∈ ts ∨ sw x ∈ ts := (bothK_spec _ ts rfl).2.2 x
end DL

end
section
set_option maxHeartbeats 4000000
namespace Lw
open PySem PySem.Spec L2 DL
theorem at_ints {l : List Int} {j : Nat} (h : j < l.length) : atI (l.map D.int) (j : Int) = some (.int (l.getD j 0)) := by
  refine atI_nat ?_
  rw [List.getElem?_map, List.getD_eq_getElem?_getD, List.getElem?_eq_getElem h]
  rfl
abbrev rAbove : List D → (Out → Prop) → Prop := fun ds post => ∃ (n : Nat) (f s : List Int), ds = [.int n, .lst (f.map D.int), .lst (s.map D.int)] ∧ (n ≤ 30 ∧ f.length = n ∧ s.length = n) ∧ post (.ret (.dic (dk (sq n) (aboveG f s))))
abbrev rReached : List D → (Out → Prop) → Prop := fun ds post => ∃ (n : Nat) (c : Int), ds = [.int n, .int c] ∧ n ≤ 30 ∧ post (.ret (.dic (dk (sq n) (reachG n c))))
abbrev rRinged : List D → (Out → Prop) → Prop := fun ds post => ∃ (n : Nat) (c : Int), ds = [.int n, .int c] ∧ n ≤ 30 ∧ post (.ret (.dic (dk (ringK n c n) (ringG n c))))
abbrev rMade : List D → (Out → Prop) → Prop := fun ds post => ∃ (way : Int) (n : Nat) (c : Int), ds = [.int way, .int n, .int c] ∧ n ≤ 30 ∧ post (.ret (.dic (dk (madeK way n c) (madeG way n c))))
theorem mulN (i n : Nat) (h : i ≤ 30) (h2 : n ≤ 30) : 0 ≤ (i : Int) * n ∧ (i : Int) * n ≤ 900 := by
  have : i * n ≤ 30 * 30 := Nat.mul_le_mul h h2
  have e : ((i * n : Nat) : Int) = (i : Int) * n := by simp
  omega
section
variable {P : Program} {w : World} {K : PySem.W.Frag} {mg : Str → Option Value} {base : Heap}
abbrev s_law_above : Stmt := top 42
theorem sc_law_above : FnScope ["_law_many", "_law_first", "_law_second", "_law_found", "_law_one", "_law_other", "_law_up"] ["_law_many", "_law_first", "_law_second"] (defScope s_law_above) := ⟨rfl, rfl, rfl, by decide +kernel, rfl, by decide +kernel, by decide +kernel⟩
theorem ok_above {f : Addr} {fd : FuncData} (F : Fun K "_law_above" "_law_above" s_law_above f fd) (T : Glb mg) : FnOk P w K mg base CX0 1 f fd ["_law_many", "_law_first", "_law_second"] (spD K rAbove) := by
  have nd := sc_law_above.nd
  refine fn_okD F sc_law_above (by rintro _ _ ⟨_, _, _, rfl, _⟩; rfl) (by decide) ?_
  rintro X _ post ⟨cdv, A, outer, s, H, E, rfl⟩ hr ⟨n, f, s, rfl, ⟨hn, hf, hs⟩, hp⟩
  refine sxs_cons (sx_setD 3 nd ed_new ?_)
  refine sxs_cons (sx_forR 4 (fun i cs => ∃ v4 v5 v6, cs = [.sh (.int n), .sh (.lst (f.map D.int)), .sh (.lst (s.map D.int)), .od (dk (rows i fun _ => n) (aboveG f s)), v4, v5, v6]) rfl nd .never T.range (eb_v 0) (by omega) ⟨_, _, _, rfl⟩ ?_ ?_)
  · rintro i cs' hi ⟨v4, v5, v6, rfl⟩
    refine sxs_one (sx_forR 5 (fun j cs => ∃ v5 v6, cs = [.sh (.int n), .sh (.lst (f.map D.int)), .sh (.lst (s.map D.int)), .od (dk (rowsTo i (fun _ => n) j) (aboveG f s)), .sh (.int i), v5, v6]) rfl nd .never T.range (eb_v 0) (by omega) ⟨_, _, by rw [rowsTo_zero]; rfl⟩ ?_ ?_)
    · rintro j cs' hj ⟨v5, v6, rfl⟩
      refine sxs_cons (sx_set 6 nd (ex_lt (eb_ixL (eb_v 1) (eb_v 4) (at_ints (by omega))) (eb_ixL (eb_v 1) (eb_v 5) (at_ints (by omega)))) ?_)
      refine sxs_one (sx_put 3 hr rfl (ex_and (eb_v 6) (fun hB => (ex_one (ex_lt (eb_ixL (eb_v 2) (eb_v 4) (at_ints (by omega))) (eb_ixL (eb_v 2) (eb_v 5) (at_ints (by omega))))))) (ex_tup (ea_cons (ex_v 4) (ea_cons (ex_v 5) ea_nil))) ?_ ?_)
      · rw [dk_len]
        have := rowsTo_len (n := i) (b := j) (w := fun _ => n) (m := n) (fun _ => Nat.le_refl _) (by omega)
        have := Nat.mul_le_mul (show i ≤ 30 by omega) hn
        omega
      · refine ⟨.sh (.int j), .sh (.bl (decide (f.getD i 0 < f.getD j 0))), ?_⟩
        have e := put_new (g := aboveG f s) (v := decide (f.getD i 0 < f.getD j 0) && decide (s.getD i 0 < s.getD j 0)) (rowsTo_no (n := i) (b := j) (w := fun _ => n)) rfl
        rw [e, ← rowsTo_succ]
        rfl
    · rintro cs' ⟨v5, v6, rfl⟩
      exact ⟨_, v5, v6, by rw [Int.toNat_natCast, rowsTo_end (w := fun _ => n)]⟩
  · rintro cs' ⟨v4, v5, v6, rfl⟩
    refine sxs_frD 3 rfl ?_
    refine sxs_one (sx_ret (ex_v 3) ?_)
    exact hp
abbrev s_law_reached : Stmt := top 43
theorem sc_law_reached : FnScope ["_law_many", "_law_cell", "_law_found", "_law_one", "_law_other", "_law_middle"] ["_law_many", "_law_cell"] (defScope s_law_reached) := ⟨rfl, rfl, rfl, by decide +kernel, rfl, by decide +kernel, by decide +kernel⟩
theorem ok_reached {f : Addr} {fd : FuncData} (F : Fun K "_law_reached" "_law_reached" s_law_reached f fd) (T : Glb mg) (gBit : FnC P w K mg base CX0 2 "_law_bit" rBit) : FnOk P w K mg base CX0 3 f fd ["_law_many", "_law_cell"] (spD K rReached) := by
  have nd := sc_law_reached.nd
  refine fn_okD F sc_law_reached (by rintro _ _ ⟨_, _, rfl, _⟩; rfl) (by decide) ?_
  rintro X _ post ⟨cdv, A, outer, s, H, E, rfl⟩ hr ⟨n, c, rfl, hn, hp⟩
  refine sxs_cons (sx_setD 2 nd ed_new ?_)
  refine sxs_cons (sx_forR 3 (fun i cs => ∃ v3 v4 v5, cs = [.sh (.int n), .sh (.int c), .od (dk (rows i fun _ => n) (upG n c)), v3, v4, v5]) rfl nd .never T.range (eb_v 0) (by omega) ⟨_, _, _, rfl⟩ ?_ ?_)
  · rintro i cs' hi ⟨v3, v4, v5, rfl⟩
    refine sxs_one (sx_forR 4 (fun j cs => ∃ v4 v5, cs = [.sh (.int n), .sh (.int c), .od (dk (rowsTo i (fun _ => n) j) (upG n c)), .sh (.int i), v4, v5]) rfl nd .never T.range (eb_v 0) (by omega) ⟨_, _, by rw [rowsTo_zero]; rfl⟩ ?_ ?_)
    · rintro j cs' hj ⟨v4, v5, rfl⟩
      have hm := mulN i n (by omega) hn
      refine sxs_one (sx_put 2 hr rfl (ex_and (EX.bo (ex_lt (eb_v 3) (eb_v 4))) (fun hB => (ex_one (ex_call gBit (hr.mono (by decide)) pass0 (ea_cons (ex_v 1) (ea_cons (ex_add (EX.bo (ex_mul (eb_v 3) (eb_v 0) (Or.inl (by omega)))) (eb_v 4)) ea_nil)) ⟨_, _, rfl, (by omega), rfl⟩)))) (ex_tup (ea_cons (ex_v 3) (ea_cons (ex_v 4) ea_nil))) ?_ ?_)
      · rw [dk_len]
        have := rowsTo_len (n := i) (b := j) (w := fun _ => n) (m := n) (fun _ => Nat.le_refl _) (by omega)
        have := Nat.mul_le_mul (show i ≤ 30 by omega) hn
        omega
      · refine ⟨.sh (.int j), v5, ?_⟩
        have e := put_new (g := upG n c) (v := decide ((i : Int) < j) && bit c ((i : Int) * n + j)) (rowsTo_no (n := i) (b := j) (w := fun _ => n)) rfl
        rw [e, ← rowsTo_succ]
        rfl
    · rintro cs' ⟨v4, v5, rfl⟩
      exact ⟨_, v4, v5, by rw [Int.toNat_natCast, rowsTo_end (w := fun _ => n)]⟩
  · rintro cs' ⟨v3, v4, v5, rfl⟩
    rw [Int.toNat_natCast]
    have inK : ∀ a b : Nat, a < n → b < n → ((a : Int), (b : Int)) ∈ sq n := fun a b ha hb => rows_mem.mpr ⟨a, b, ha, hb, rfl⟩
    refine sxs_cons (sx_forR 5 (fun m cs => ∃ v3 v4 v5, cs = [.sh (.int n), .sh (.int c), .od (dk (sq n) (rM n m (upG n c))), v3, v4, v5]) rfl nd .never T.range (eb_v 0) (by omega) ⟨_, _, _, rfl⟩ ?_ ?_)
    · rintro m cs' hm ⟨v3, v4, v5, rfl⟩
      refine sxs_one (sx_forR 3 (fun a cs => ∃ v3 v4, cs = [.sh (.int n), .sh (.int c), .od (dk (sq n) (rA n m a (rM n m (upG n c)))), v3, v4, .sh (.int m)]) rfl nd .never T.range (eb_v 5) (by omega) ⟨_, _, rfl⟩ ?_ ?_)
      · rintro a cs' ha ⟨v3, v4, rfl⟩
        refine sxs_one (sx_forR2 4 (fun k cs => ∃ v4, cs = [.sh (.int n), .sh (.int c), .od (dk (sq n) (rB m a k (rA n m a (rM n m (upG n c))))), .sh (.int a), v4, .sh (.int m)]) rfl nd .never T.range (EX.bo (ex_add (eb_v 5) (EX.bo ex_int))) (eb_v 0) (by omega) ⟨_, rfl⟩ ?_ ?_)
        · rintro k cs' hk ⟨v4, rfl⟩
          have e : (m : Int) + 1 + (k : Int) = ((m + 1 + k : Nat) : Int) := by omega
          rw [e]
          refine sxs_one (sx_if (WB.t (wx_and (tx_val (eb_ixD hr (eb_v 2) (EX.bo (ex_tup (ea_cons (ex_v 3) (ea_cons (ex_v 5) ea_nil)))) (lk_dk (inK _ _ (by omega) (by omega))))) (fun hB => (wx_and1 (tx_val (eb_ixD hr (eb_v 2) (EX.bo (ex_tup (ea_cons (ex_v 5) (ea_cons (ex_v 4) ea_nil)))) (lk_dk (inK _ _ (by omega) (by omega))))))))) (fun h => sxs_one (sx_put 2 hr rfl ex_bl (ex_tup (ea_cons (ex_v 3) (ea_cons (ex_v 4) ea_nil))) ?_ ?_)) (fun h => sxs_nil ?_))
          · rw [dk_len]
            have : (sq n).length ≤ n * n := rows_len (fun _ => Nat.le_refl _)
            have := Nat.mul_le_mul hn hn
            omega
          · refine ⟨.sh (.int ((m + 1 + k : Nat) : Int)), ?_⟩
            rw [put_old (inK _ _ (by omega) (by omega)), rB, rStep, if_pos h]
            rfl
          · refine ⟨.sh (.int ((m + 1 + k : Nat) : Int)), ?_⟩
            rw [rB, rStep, if_neg (by rw [h]; exact Bool.false_ne_true)]
            rfl
        · rintro cs' ⟨v4, rfl⟩
          have e : ((n : Int) - ((m : Int) + 1)).toNat = n - (m + 1) := by omega
          rw [e]
          exact ⟨_, v4, rfl⟩
      · rintro cs' ⟨v3, v4, rfl⟩
        rw [Int.toNat_natCast]
        exact ⟨v3, v4, _, rfl⟩
    · rintro cs' ⟨v3, v4, v5, rfl⟩
      rw [Int.toNat_natCast]
      refine sxs_frD 2 rfl ?_
      refine sxs_one (sx_ret (ex_v 2) ?_)
      exact hp
abbrev s_law_ringed : Stmt := top 44
theorem sc_law_ringed : FnScope ["_law_many", "_law_cell", "_law_found", "_law_one"] ["_law_many", "_law_cell"] (defScope s_law_ringed) := ⟨rfl, rfl, rfl, by decide +kernel, rfl, by decide +kernel, by decide +kernel⟩
theorem ok_ringed {f : Addr} {fd : FuncData} (F : Fun K "_law_ringed" "_law_ringed" s_law_ringed f fd) (T : Glb mg) (gBit : FnC P w K mg base CX0 2 "_law_bit" rBit) : FnOk P w K mg base CX0 3 f fd ["_law_many", "_law_cell"] (spD K rRinged) := by
  have nd := sc_law_ringed.nd
  refine fn_okD F sc_law_ringed (by rintro _ _ ⟨_, _, rfl, _⟩; rfl) (by decide) ?_
  rintro X _ post ⟨cdv, A, outer, s, H, E, rfl⟩ hr ⟨n, c, rfl, hn, hp⟩
  refine sxs_cons (sx_setD 2 nd ed_new ?_)
  refine sxs_cons (sx_forR 3 (fun i cs => ∃ v3, cs = [.sh (.int n), .sh (.int c), .od (dk (ringK n c i) (ringG n c)), v3]) rfl nd .never T.range (eb_v 0) (by omega) ⟨_, rfl⟩ ?_ ?_)
  · rintro i cs' hi ⟨v3, rfl⟩
    have hl := ringK_len n c i
    refine sxs_cons (sx_put 2 hr rfl ex_bl (ex_tup (ea_cons (ex_v 3) (ea_cons (ex_mod (EX.bo (ex_add (eb_v 3) (EX.bo ex_int))) (eb_v 0) (by first | decide | omega | assumption)) ea_nil))) ?_ ?_)
    · rw [dk_len]; omega
    · rw [put_new ringK_no (by unfold ringG; rw [if_pos rfl])]
      refine sxs_one (sx_if (WB.t (wx_and (tx_eqI (EX.bo (ex_mod (eb_v 1) (EX.bo ex_int) (by first | decide | omega | assumption))) (EX.bo ex_int)) (fun hB => (wx_and (tx_gt (eb_v 3) (EX.bo ex_int)) (fun hB => (wx_and1 (tx_gt (eb_v 0) (EX.bo ex_int)))))))) (fun h => sxs_one (sx_put 2 hr rfl (ex_call gBit (hr.mono (by decide)) pass0 (ea_cons (ex_v 1) (ea_cons (ex_v 3) ea_nil)) ⟨_, _, rfl, (by omega), rfl⟩) (ex_tup (ea_cons (ex_v 3) (ea_cons (ex_mod (EX.bo (ex_add (eb_v 3) (EX.bo ex_int))) (eb_v 0) (by first | decide | omega | assumption)) ea_nil))) ?_ ?_)) (fun h => sxs_nil ?_))
      · rw [dk_len, List.length_append, List.length_singleton]; omega
      · refine ⟨.sh (.int i), ?_⟩
        have hc : chord n c i = true := h
        have h6 : 6 < (n : Int) := by
          unfold chord at hc
          simp at hc
          omega
        have hne := ring13 h6 (i := i) (by omega) (by omega)
        rw [put_new (k := ((i : Int), ((i : Int) + 3) % n)) (fun z => ?_) (by unfold ringG; rw [if_neg (fun z => hne z.symm)]), ringK, if_pos hc]
        · rfl
        · rcases List.mem_append.mp z with z | z
          · exact ringK_no z
          · exact hne (congrArg Prod.snd (List.mem_singleton.mp z)).symm
      · refine ⟨.sh (.int i), ?_⟩
        have hc : ¬ chord n c i = true := by
          show ¬ _ = true
          rw [show chord n c i = false from h]
          exact Bool.false_ne_true
        rw [ringK, if_neg hc, List.append_nil]
        rfl
  · rintro cs' ⟨v3, rfl⟩
    rw [Int.toNat_natCast]
    refine sxs_frD 2 rfl ?_
    refine sxs_one (sx_ret (ex_v 2) ?_)
    exact hp
abbrev s_law_made : Stmt := top 45
theorem sc_law_made : FnScope ["_law_way", "_law_many", "_law_cell", "_law_found", "_law_one", "_law_other"] ["_law_way", "_law_many", "_law_cell"] (defScope s_law_made) := ⟨rfl, rfl, rfl, by decide +kernel, rfl, by decide +kernel, by decide +kernel⟩
theorem ok_made {f : Addr} {fd : FuncData} (F : Fun K "_law_made" "_law_made" s_law_made f fd) (T : Glb mg) (gDrawn : FnC P w K mg base CX0 1 "_law_drawn" rDrawn) (gBit : FnC P w K mg base CX0 2 "_law_bit" rBit) (gOrder : FnC P w K mg base CX0 2 "_law_order" rOrder)
    (gAbove : FnC P w K mg base CX0 1 "_law_above" rAbove) (gReached : FnC P w K mg base CX0 3 "_law_reached" rReached) (gRinged : FnC P w K mg base CX0 3 "_law_ringed" rRinged) : FnOk P w K mg base CX0 4 f fd ["_law_way", "_law_many", "_law_cell"] (spD K rMade) := by
  have nd := sc_law_made.nd
  refine fn_okD F sc_law_made (by rintro _ _ ⟨_, _, _, rfl, _⟩; rfl) (by decide) ?_
  rintro X _ post ⟨cdv, A, outer, s, H, E, rfl⟩ hr ⟨way, n, c, rfl, hn, hp⟩
  refine sxs_cons (sx_setD 3 nd ed_new ?_)
  refine sxs_cons (sx_if (tx_lt (eb_v 0) (EX.bo ex_int)) (fun h => ?_) (fun h => sxs_nil ?_))
  · have h : way < 2 := by simpa using h
    refine sxs_cons (sx_forR 4 (fun i cs => ∃ v4 v5, cs = [.sh (.int way), .sh (.int n), .sh (.int c), .od (dk (rows i fun a => a) (anyG n c)), v4, v5]) rfl nd .never T.range (eb_v 1) (by omega) ⟨_, _, rfl⟩ ?_ ?_)
    · rintro i cs' hi ⟨v4, v5, rfl⟩
      refine sxs_one (sx_forR 5 (fun j cs => ∃ v5, cs = [.sh (.int way), .sh (.int n), .sh (.int c), .od (dk (rowsTo i (fun a => a) j) (anyG n c)), .sh (.int i), v5]) rfl nd .never T.range (eb_v 4) (by omega) ⟨_, by rw [rowsTo_zero]; rfl⟩ ?_ ?_)
      · rintro j cs' hj ⟨v5, rfl⟩
        have hm := mulN i n (by omega) hn
        refine sxs_one (sx_put 3 hr rfl (ex_call gBit (hr.mono (by decide)) pass0 (ea_cons (ex_v 2) (ea_cons (ex_add (EX.bo (ex_mul (eb_v 4) (eb_v 1) (Or.inl (by omega)))) (eb_v 5)) ea_nil)) ⟨_, _, rfl, (by omega), rfl⟩) (ex_tup (ea_cons (ex_v 4) (ea_cons (ex_v 5) ea_nil))) ?_ ?_)
        · rw [dk_len]
          unfold rowsTo
          have h1 : (rows i fun a => a).length ≤ i * i := by
            have hh : ∀ k, k ≤ i → (rows k fun a => a).length ≤ k * i := fun k => by
              induction k with
              | zero => intro _; simp [rows]
              | succ k ih =>
                intro hk
                rw [rows_succ, List.length_append, List.length_map, List.length_range, Nat.succ_mul]
                have := ih (by omega)
                omega
            exact hh i (Nat.le_refl _)
          rw [List.length_append, List.length_map, List.length_range]
          have := Nat.mul_le_mul (show i ≤ 30 by omega) (show i ≤ 30 by omega)
          omega
        · refine ⟨.sh (.int j), ?_⟩
          have e := put_new (g := anyG n c) (v := bit c ((i : Int) * n + j)) (rowsTo_no (n := i) (b := j) (w := fun a => a)) rfl
          rw [e, ← rowsTo_succ]
          rfl
      · rintro cs' ⟨v5, rfl⟩
        exact ⟨_, v5, by rw [Int.toNat_natCast, rowsTo_end (w := fun a => a)]⟩
    · rintro cs' ⟨v4, v5, rfl⟩
      rw [Int.toNat_natCast]
      refine sxs_frD 3 rfl ?_
      refine sxs_one (sx_ret (ex_v 3) ?_)
      unfold madeK madeG at hp
      rw [if_pos h, if_pos h] at hp
      exact hp
  · have h : ¬ way < 2 := by simpa using h
    unfold madeK madeG at hp
    rw [if_neg h, if_neg h] at hp
    refine sxs_cons (sx_if (tx_lt (eb_v 0) (EX.bo ex_int)) (fun h => ?_) (fun h => sxs_nil ?_))
    · have h : way < 4 := by simpa using h
      rw [if_pos h, if_pos h] at hp
      refine sxs_one (sx_ret (ex_call gAbove (hr.mono (by decide)) pass0 (ea_cons (ex_v 1) (ea_cons (ex_call gOrder (hr.mono (by decide)) pass0 (ea_cons (ex_v 2) (ea_cons (ex_v 1) ea_nil)) ⟨_, _, rfl, (by omega), rfl⟩) (ea_cons (ex_call gOrder (hr.mono (by decide)) pass0 (ea_cons (ex_add (EX.bo (ex_fdiv (eb_v 2) (EX.bo ex_int) (by first | decide | omega | assumption))) (EX.bo ex_int)) (ea_cons (ex_v 1) ea_nil)) ⟨_, _, rfl, (by omega), rfl⟩) ea_nil))) ⟨_, _, _, rfl, ?_, rfl⟩) ?_)
      · exact ⟨hn, order_len _ _, order_len _ _⟩
      · exact hp
    have h4 : ¬ way < 4 := by simpa using h
    rw [if_neg h4, if_neg h4] at hp
    refine sxs_cons (sx_if (tx_eqI (eb_v 0) (EX.bo ex_int)) (fun h => ?_) (fun h => sxs_nil ?_))
    · have h : way = 4 := by simpa using h
      rw [if_pos h, if_pos h] at hp
      refine sxs_cons (sx_forR2 4 (fun k cs => ∃ v4 v5, cs = [.sh (.int way), .sh (.int n), .sh (.int c), .od (dk (treeK c k) (fun _ => true)), v4, v5]) rfl nd .never T.range (EX.bo ex_int) (eb_v 1) (by omega) ⟨_, _, rfl⟩ ?_ ?_)
      · rintro k cs' hk ⟨v4, v5, rfl⟩
        refine sxs_one (sx_put 3 hr rfl ex_bl (ex_tup (ea_cons (ex_v 4) (ea_cons (ex_mod (EX.bo (ex_call gDrawn (hr.mono (by decide)) pass0 (ea_cons (ex_add (eb_v 2) (EX.bo ex_int)) (ea_cons (ex_v 4) ea_nil)) ⟨_, _, rfl, (by omega), rfl⟩)) (eb_v 4) (by first | decide | omega | assumption)) ea_nil))) ?_ ?_)
        · rw [dk_len, treeK_len]; omega
        · refine ⟨.sh (.int (1 + (k : Int))), v5, ?_⟩
          rw [put_new treeK_no rfl]
          rfl
      · rintro cs' ⟨v4, v5, rfl⟩
        have e : ((n : Int) - 1).toNat = n - 1 := by omega
        rw [e]
        refine sxs_frD 3 rfl ?_
        refine sxs_one (sx_ret (ex_v 3) ?_)
        exact hp
    have h5 : ¬ way = 4 := by simpa using h
    rw [if_neg h5, if_neg h5] at hp
    refine sxs_cons (sx_if (tx_eqI (eb_v 0) (EX.bo ex_int)) (fun h => ?_) (fun h => sxs_nil ?_))
    · have h : way = 5 := by simpa using h
      rw [if_pos h, if_pos h] at hp
      refine sxs_one (sx_ret (ex_call gRinged (hr.mono (by decide)) pass0 (ea_cons (ex_v 1) (ea_cons (ex_v 2) ea_nil)) ⟨_, _, rfl, (by omega), rfl⟩) ?_)
      exact hp
    have h6 : ¬ way = 5 := by simpa using h
    rw [if_neg h6, if_neg h6] at hp
    refine sxs_cons (sx_if (tx_eqI (eb_v 0) (EX.bo ex_int)) (fun h => ?_) (fun h => sxs_nil ?_))
    · have h : way = 6 := by simpa using h
      rw [if_pos h, if_pos h] at hp
      refine sxs_one (sx_ret (ex_call gReached (hr.mono (by decide)) pass0 (ea_cons (ex_v 1) (ea_cons (ex_v 2) ea_nil)) ⟨_, _, rfl, (by omega), rfl⟩) ?_)
      exact hp
    have h7 : ¬ way = 6 := by simpa using h
    rw [if_neg h7, if_neg h7] at hp
    refine sxs_cons (sx_forR 4 (fun i cs => ∃ v4 v5, cs = [.sh (.int way), .sh (.int n), .sh (.int c), .od (dk (rows i fun a => a) (sidesG n c)), v4, v5]) rfl nd .never T.range (eb_v 1) (by omega) ⟨_, _, rfl⟩ ?_ ?_)
    · rintro i cs' hi ⟨v4, v5, rfl⟩
      refine sxs_one (sx_forR 5 (fun j cs => ∃ v5, cs = [.sh (.int way), .sh (.int n), .sh (.int c), .od (dk (rowsTo i (fun a => a) j) (sidesG n c)), .sh (.int i), v5]) rfl nd .never T.range (eb_v 4) (by omega) ⟨_, by rw [rowsTo_zero]; rfl⟩ ?_ ?_)
      · rintro j cs' hj ⟨v5, rfl⟩
        have hm := mulN i n (by omega) hn
        refine sxs_one (sx_put 3 hr rfl (ex_and (EX.bo (ex_neI (EX.bo (ex_mod (eb_v 4) (EX.bo ex_int) (by first | decide | omega | assumption))) (EX.bo (ex_mod (eb_v 5) (EX.bo ex_int) (by first | decide | omega | assumption))))) (fun hB => (ex_one (ex_call gBit (hr.mono (by decide)) pass0 (ea_cons (ex_v 2) (ea_cons (ex_add (EX.bo (ex_mul (eb_v 4) (eb_v 1) (Or.inl (by omega)))) (eb_v 5)) ea_nil)) ⟨_, _, rfl, (by omega), rfl⟩)))) (ex_tup (ea_cons (ex_v 4) (ea_cons (ex_v 5) ea_nil))) ?_ ?_)
        · rw [dk_len]
          unfold rowsTo
          have h1 : (rows i fun a => a).length ≤ i * i := by
            have hh : ∀ k, k ≤ i → (rows k fun a => a).length ≤ k * i := fun k => by
              induction k with
              | zero => intro _; simp [rows]
              | succ k ih =>
                intro hk
                rw [rows_succ, List.length_append, List.length_map, List.length_range, Nat.succ_mul]
                have := ih (by omega)
                omega
            exact hh i (Nat.le_refl _)
          rw [List.length_append, List.length_map, List.length_range]
          have := Nat.mul_le_mul (show i ≤ 30 by omega) (show i ≤ 30 by omega)
          omega
        · refine ⟨.sh (.int j), ?_⟩
          have e := put_new (g := sidesG n c) (v := (!decide ((i : Int) % 2 = (j : Int) % 2)) && bit c ((i : Int) * n + j)) (rowsTo_no (n := i) (b := j) (w := fun a => a)) rfl
          rw [e, ← rowsTo_succ]
          rfl
      · rintro cs' ⟨v5, rfl⟩
        exact ⟨_, v5, by rw [Int.toNat_natCast, rowsTo_end (w := fun a => a)]⟩
    · rintro cs' ⟨v4, v5, rfl⟩
      rw [Int.toNat_natCast]
      refine sxs_frD 3 rfl ?_
      refine sxs_one (sx_ret (ex_v 3) ?_)
      exact hp
end
end Lw

end
section
set_option maxHeartbeats 4000000
namespace Lw
open PySem PySem.Spec L2 DL
theorem at_width (ns : List Int) : atI [D.int 11, D.int 9, D.int 11, D.int 10, D.int 19, D.int 9, D.int 10, D.int 13] (wayOf ns) = some (.int (widthOf (wayOf ns))) := by
  rcases way_cases ns with h | h | h | h | h | h | h | h <;> rw [h] <;> rfl
theorem pos_wr (ns : List Int) : 0 < widthOf (wayOf ns) + roomOf ns := by
  have h1 := room_bd ns
  have h2 := width_bd ns
  omega
theorem at_nm {l : List Int} {i : Int} (h : 0 ≤ i ∧ i < l.length) : atI (l.map D.int) i = some (.int (l.getD i.toNat 0)) := by
  obtain ⟨k, rfl⟩ := Int.eq_ofNat_of_zero_le h.1
  exact at_ints (by omega)
abbrev rNet : List D → (Out → Prop) → Prop := fun ds post => ∃ ns : List Int, ds = [.scr ns] ∧ post (.ret (.tup [.int (netN ns), .lst ((netT ns).map dP)]))
abbrev rBoth : List D → (Out → Prop) → Prop := fun ds post => ∃ ts : List (Int × Int), ds = [.lst (ts.map dP)] ∧ ts.length ≤ 100000 ∧ post (.ret (.dic (dk (bothK ts) fun _ => true)))
section
variable {P : Program} {w : World} {K : PySem.W.Frag} {mg : Str → Option Value} {base : Heap}
abbrev s_law_net : Stmt := top 46
theorem sc_law_net : FnScope ["_law_script", "_law_way", "_law_room", "_law_many", "_law_cell", "_law_found", "_law_names", "_law_ties", "_law_pair_here", "_law_tie"] ["_law_script"] (defScope s_law_net) := ⟨rfl, rfl, rfl, by decide +kernel, rfl, by decide +kernel, by decide +kernel⟩
theorem ok_net {f : Addr} {fd : FuncData} (F : Fun K "_law_net" "_law_net" s_law_net f fd) (T : Glb mg) (gCell : FnC P w K mg base CX0 1 "_law_cell_at" rCell) (gDrawn : FnC P w K mg base CX0 1 "_law_drawn" rDrawn) (gBit : FnC P w K mg base CX0 2 "_law_bit" rBit)
    (gOrder : FnC P w K mg base CX0 2 "_law_order" rOrder) (gMade : FnC P w K mg base CX0 4 "_law_made" rMade) : FnOk P w K mg base CX0 5 f fd ["_law_script"] (spD K rNet) := by
  have nd := sc_law_net.nd
  refine fn_okD F sc_law_net (by rintro _ _ ⟨_, rfl, _⟩; rfl) (by decide) ?_
  rintro X _ post ⟨cdv, A, outer, s, H, E, rfl⟩ hr ⟨ns, rfl, hp⟩
  have hN := netN_bd ns
  refine sxs_cons (sx_set 1 nd (ex_mod (EX.bo (ex_call gCell (hr.mono (by decide)) pass0 (ea_cons (ex_v 0) (ea_cons ex_int ea_nil)) ⟨_, _, rfl, (by decide), rfl⟩)) (EX.bo ex_int) (by first | decide | omega | assumption)) (sxs_cons (sx_set 2 nd (ex_mul (EX.bo ex_int) (EX.bo (ex_intB T.int (EX.bo (ex_eqI (EX.bo (ex_mod (EX.bo (ex_fdiv (EX.bo (ex_call gCell (hr.mono (by decide)) pass0 (ea_cons (ex_v 0) (ea_cons ex_int ea_nil)) ⟨_, _, rfl, (by decide), rfl⟩)) (EX.bo ex_int) (by first | decide | omega | assumption))) (EX.bo ex_int) (by first | decide | omega | assumption))) (EX.bo ex_int))))) (by first | decide | omega | assumption)) ?_)))
  refine sxs_cons (sx_set 3 nd (EX.to (d' := .int (manyOf ns)) (ex_mod (EX.bo (ex_call gCell (hr.mono (by decide)) pass0 (ea_cons (ex_v 0) (ea_cons ex_int ea_nil)) ⟨_, _, rfl, (by decide), rfl⟩)) (EX.bo (ex_add (eb_ixL (EX.bo (EO.x (eo_lst (ea_cons ex_int (ea_cons ex_int (ea_cons ex_int (ea_cons ex_int (ea_cons ex_int (ea_cons ex_int (ea_cons ex_int (ea_cons ex_int ea_nil))))))))))) (eb_v 1) (at_width ns)) (eb_v 2))) (pos_wr ns)) rfl) ?_)
  refine sxs_cons (sx_ifJ [.sh (.scr ns), .sh (.int (wayOf ns)), .sh (.int (roomOf ns)), .sh (.int (netN ns)), .any, .any, .any, .any, .any, .any] (tx_eqI (eb_v 1) (EX.bo ex_int)) (fun h => sxs_one (sx_set 3 nd (ex_add (EX.bo ex_int) (eb_v 3)) ?_)) (fun h => sxs_nil ?_) ?_)
  · have h : wayOf ns = 5 := of_decide_eq_true h
    rw [netN_eq, if_pos h]
    rfl
  · have h : ¬ wayOf ns = 5 := of_decide_eq_false h
    rw [netN_eq, if_neg h]
    rfl
  refine sxs_cons (sx_set 4 nd (ex_call gCell (hr.mono (by decide)) pass0 (ea_cons (ex_v 0) (ea_cons ex_int ea_nil)) ⟨_, _, rfl, (by decide), rfl⟩) (sxs_cons (sx_set 5 nd (ex_call gMade (hr.mono (by decide)) pass0 (ea_cons (ex_v 1) (ea_cons (ex_v 3) (ea_cons (ex_v 4) ea_nil))) ⟨_, _, _, rfl, (by omega), rfl⟩) (sxs_cons (sx_set 6 nd (ex_call gOrder (hr.mono (by decide)) pass0 (ea_cons (ex_call gCell (hr.mono (by decide)) pass0 (ea_cons (ex_v 0) (ea_cons ex_int ea_nil)) ⟨_, _, rfl, (by decide), rfl⟩) (ea_cons (ex_v 3) ea_nil)) ⟨_, _, rfl, (by omega), rfl⟩) (sxs_cons (sx_setO 7 nd (eo_lst ea_nil) ?_)))))))
  have han := anti_made (wayOf ns) (netN ns) (cellAt ns 2) (netN_3 ns)
  have hkl := madeK_len (wayOf ns) (netN ns) (cellAt ns 2) (by omega)
  have hnl := order_len (cellAt ns 3) (netN ns)
  unfold netT at hp
  generalize hK : madeK (wayOf ns) (netN ns) (cellAt ns 2) = Ks at han hkl hp ⊢
  generalize hG : madeG (wayOf ns) (netN ns) (cellAt ns 2) = g at han hp ⊢
  generalize hM : order (cellAt ns 3) (netN ns) = nm at hnl hp
  refine sxs_cons (sx_forL 8 (fun j cs => ∃ v8 v9, cs = [.sh (.scr ns), .sh (.int (wayOf ns)), .sh (.int (roomOf ns)), .sh (.int (netN ns)), .sh (.int (cellAt ns 2)), .sh (.dic (dk Ks g)), .sh (.lst (nm.map D.int)), .ol ((tiesOf g nm (cellAt ns 2) (Ks.take j)).map dP), v8, v9]) rfl nd .never (EO.x (eo_listD rfl T.list (eb_v 5))) ⟨_, _, by rw [← hM]; rfl⟩ ?_ ?_)
  · rintro j d cs' hd ⟨v8, v9, rfl⟩
    have hd2 : ∃ k, Ks[j]? = some k ∧ d = dP k := by
      unfold dk at hd
      rw [List.map_map, List.getElem?_map] at hd
      cases e : Ks[j]? with
      | none => rw [e] at hd; cases hd
      | some k => rw [e] at hd; exact ⟨k, rfl, (Option.some.inj hd).symm⟩
    obtain ⟨k, hk, rfl⟩ := hd2
    have hj := (List.getElem?_eq_some_iff.mp hk).1
    have hm := List.mem_of_getElem? hk
    have hb := (han.2 k hm).1
    have htl := tiesOf_len (g := g) (nm := nm) (c := cellAt ns 2) (keys := Ks.take j)
    rw [List.length_take] at htl
    have hstep : tiesOf g nm (cellAt ns 2) (Ks.take (j + 1)) = tieStep g nm (cellAt ns 2) (tiesOf g nm (cellAt ns 2) (Ks.take j)) k := by
      rw [List.take_add_one, hk]
      exact tiesOf_snoc
    refine sxs_one (sx_if (tx_val (eb_ixD hr (eb_v 5) (eb_v 8) (lk_dk hm))) (fun h => ?_) (fun h => sxs_nil ?_))
    · generalize hT : tiesOf g nm (cellAt ns 2) (Ks.take j) = ts at htl hstep ⊢
      have hlm : ((ts.map dP).length : Int) = (ts.length : Int) := by rw [List.length_map]
      have h1 : drawn (cellAt ns 2 + 9) (ts.length : Int) % ((ts.length : Int) + 1) < (ts.length : Int) + 1 := Int.emod_lt_of_pos _ (by omega)
      have h2 : 0 ≤ drawn (cellAt ns 2 + 9) (ts.length : Int) % ((ts.length : Int) + 1) := Int.emod_nonneg _ (by omega)
      refine sxs_cons (sx_set 9 nd (ex_tup (ea_cons (ex_ixL (ex_v 6) (eb_ixT (eb_v 8) (EX.bo ex_int) rfl) (at_nm (by omega))) (ea_cons (ex_ixL (ex_v 6) (eb_ixT (eb_v 8) (EX.bo ex_int) rfl) (at_nm (by omega))) ea_nil))) ?_)
      refine sxs_cons (sx_ifJ [.sh (.scr ns), .sh (.int (wayOf ns)), .sh (.int (roomOf ns)), .sh (.int (netN ns)), .sh (.int (cellAt ns 2)), .sh (.dic (dk Ks g)), .sh (.lst (nm.map D.int)), .ol (ts.map dP), .sh (dP k), .sh (dP (tieOf nm (cellAt ns 2) ts.length k))] (tx_val (EX.bo (ex_call gBit (hr.mono (by decide)) pass0 (ea_cons (ex_v 4) (ea_cons (ex_lenL T.len (eb_v 7)) ea_nil)) ⟨_, _, rfl, (by omega), rfl⟩))) (fun h => sxs_one (sx_set 9 nd (ex_tup (ea_cons (ex_ixT (ex_v 9) (EX.bo ex_int) rfl) (ea_cons (ex_ixT (ex_v 9) (EX.bo ex_int) rfl) ea_nil))) ?_)) (fun h => sxs_nil ?_) ?_)
      · rw [hlm] at h
        rw [tieOf, if_pos h]
        rfl
      · rw [hlm] at h
        rw [tieOf, if_neg (by rw [h]; exact Bool.false_ne_true)]
        rfl
      refine sxs_one (sx_insert 7 rfl (EX.bo (ex_mod (EX.bo (ex_call gDrawn (hr.mono (by decide)) pass0 (ea_cons (ex_add (eb_v 4) (EX.bo ex_int)) (ea_cons (ex_lenL T.len (eb_v 7)) ea_nil)) ⟨_, _, rfl, (by omega), rfl⟩)) (EX.bo (ex_add (EX.bo (ex_lenL T.len (eb_v 7))) (EX.bo ex_int))) (by first | decide | omega | assumption))) (ex_v 9) ?_ ?_ (fun _ _ h1 h2 => ps_expr (pe_bm PySem.F.plainAttrs_list PySem.F.slot_list_insert PySem.F.type_list_insert mt_insert (pv 7) (pa_cons h1 (pa_cons h2 pa_nil)))) ?_)
      · rw [hlm]; omega
      · rw [List.length_map]; omega
      · refine ⟨.sh (dP k), .sh (dP (tieOf nm (cellAt ns 2) ts.length k)), ?_⟩
        rw [hstep, tieStep, if_pos h, hlm, ins_map]
        rfl
    · refine ⟨.sh (dP k), v9, ?_⟩
      rw [hstep, tieStep, if_neg (by rw [h]; exact Bool.false_ne_true)]
      rfl
  · rintro cs' ⟨v8, v9, rfl⟩
    have e : ((dk Ks g).map fun p => D.tup [.int p.1.1, .int p.1.2]).length = Ks.length := by rw [List.length_map, dk_len]
    rw [e, List.take_length]
    refine sxs_frL 7 rfl ?_
    refine sxs_one (sx_ret (ex_tup (ea_cons (ex_v 3) (ea_cons (ex_v 7) ea_nil))) ?_)
    exact hp
abbrev s_law_both : Stmt := top 47
theorem sc_law_both : FnScope ["_law_ties", "_law_found", "_law_tie"] ["_law_ties"] (defScope s_law_both) := ⟨rfl, rfl, rfl, by decide +kernel, rfl, by decide +kernel, by decide +kernel⟩
theorem ok_both {f : Addr} {fd : FuncData} (F : Fun K "_law_both" "_law_both" s_law_both f fd) (T : Glb mg) : FnOk P w K mg base CX0 1 f fd ["_law_ties"] (spD K rBoth) := by
  have nd := sc_law_both.nd
  refine fn_okD F sc_law_both (by rintro _ _ ⟨_, rfl, _⟩; rfl) (by decide) ?_
  rintro X _ post ⟨cdv, A, outer, s, H, E, rfl⟩ hr ⟨ts, rfl, hl, hp⟩
  refine sxs_cons (sx_setD 1 nd ed_new ?_)
  refine sxs_cons (sx_forL 2 (fun j cs => ∃ v, cs = [.sh (.lst (ts.map dP)), .od (dk (bothK (ts.take j)) fun _ => true), v]) rfl nd .never (ex_v 0) ⟨_, rfl⟩ ?_ ?_)
  · rintro j d cs' hd ⟨v, rfl⟩
    rw [List.getElem?_map] at hd
    cases e : ts[j]? with
    | none => rw [e] at hd; cases hd
    | some t =>
      rw [e] at hd
      obtain rfl := (Option.some.inj hd).symm
      have hb := bothK_len (ts.take j)
      rw [List.length_take] at hb
      have hb2 := addK_len (keys := bothK (ts.take j)) (k := t)
      refine sxs_cons (sx_put 1 hr rfl ex_bl (ex_v 2) ?_ ?_)
      · rw [dk_len]; omega
      · rw [put_addK (k := (t.1, t.2))]
        refine sxs_one (sx_put 1 hr rfl ex_bl (ex_tup (ea_cons (ex_ixT (ex_v 2) (EX.bo ex_int) rfl) (ea_cons (ex_ixT (ex_v 2) (EX.bo ex_int) rfl) ea_nil))) ?_ ?_)
        · rw [dk_len]
          have : (addK (bothK (ts.take j)) (t.1, t.2)).length ≤ (bothK (ts.take j)).length + 1 := addK_len
          omega
        · refine ⟨.sh (dP t), ?_⟩
          rw [List.take_add_one, e]
          show _ = [C.sh (.lst (ts.map dP)), .od (dk (bothK (ts.take j ++ [t])) fun _ => true), .sh (dP t)]
          rw [bothK_snoc, put_addK (k := (t.2, t.1))]
          rfl
  · rintro cs' ⟨v, rfl⟩
    rw [List.length_map, List.take_length]
    refine sxs_frD 1 rfl ?_
    refine sxs_one (sx_ret (ex_v 1) ?_)
    exact hp
end
end Lw

end
section
set_option maxHeartbeats 4000000
namespace Lw
open PySem PySem.Spec L2 DL
theorem at_get {ds : List D} {j : Nat} (h : j < ds.length) : atI ds (j : Int) = some (ds[j]'h) := atI_nat (List.getElem?_eq_getElem h)
abbrev rAlike (n : Nat) : List D → (Out → Prop) → Prop := fun ds post => ∃ d : D, ds = [d, d] ∧ TI n d ∧ post (.ret (.bl true))
abbrev rListed : List D → (Out → Prop) → Prop := fun ds post => ∃ xs : List D, ds = [.lst xs, .lst xs] ∧ (xs.length ≤ 100000 ∧ ∀ x ∈ xs, TI 2 x) ∧ post (.ret (.bl true))
abbrev rWhole : List D → (Out → Prop) → Prop := fun ds post => ∃ i : Int, ds = [.int i] ∧ post (.ret (.bl true))
section
variable {P : Program} {w : World} {K : PySem.W.Frag} {mg : Str → Option Value} {base : Heap}
abbrev s_law_whole : Stmt := top 37
theorem sc_law_whole : FnScope ["_law_told_here"] ["_law_told_here"] (defScope s_law_whole) := ⟨rfl, rfl, rfl, by decide +kernel, rfl, by decide +kernel, by decide +kernel⟩
theorem ok_whole {f : Addr} {fd : FuncData} (F : Fun K "_law_whole" "_law_whole" s_law_whole f fd) (T : Glb mg) : FnOk P w K mg base CX0 1 f fd ["_law_told_here"] (spD K rWhole) := by
  have nd := sc_law_whole.nd
  refine fn_okD F sc_law_whole (by rintro _ _ ⟨_, rfl, _⟩; rfl) (by decide) ?_
  rintro X _ post ⟨cdv, A, outer, s, H, E, rfl⟩ hr ⟨i, rfl, hp⟩
  refine sxs_one (sx_ret (ex_and (EX.bo (ex_isi (T := "int") T.isinst T.int (eb_v 0) (by decide +kernel) (by first | exact ki_ti | exact ki_li | exact ki_ii | exact ki_bi | exact ki_ni))) (fun hB => (ex_one (ex_not (EX.bo (ex_isi (T := "bool") T.isinst T.bool (eb_v 0) (by decide +kernel) (by first | exact ki_tb | exact ki_lb | exact ki_ib | exact ki_bb | exact ki_nb))))))) ?_)
  exact hp
abbrev s_law_alike : Stmt := top 38
theorem sc_law_alike : FnScope ["_law_told_here", "_law_due", "_law_k"] ["_law_told_here", "_law_due"] (defScope s_law_alike) := ⟨rfl, rfl, rfl, by decide +kernel, rfl, by decide +kernel, by decide +kernel⟩
theorem ok_alike {f : Addr} {fd : FuncData} (F : Fun K "_law_alike" "_law_alike" s_law_alike f fd) (T : Glb mg) (hm : mg "_law_alike" = some (.ref f)) (hk : PySem.W.keepIn K (.ref f) = true) (hb : Binds K fd ["_law_told_here", "_law_due"] []) :
    ∀ n, FnOk P w K mg base CX0 (n + 1) f fd ["_law_told_here", "_law_due"] (spD K (rAlike n)) := by
  have nd := sc_law_alike.nd
  have leafc : ∀ {d : D}, d.leaf = true → d = .non ∨ (∃ b, d = .bl b) ∨ ∃ i, d = .int i := fun {d} h => by
    cases d with
    | non => exact .inl rfl
    | bl b => exact .inr (.inl ⟨b, rfl⟩)
    | int i => exact .inr (.inr ⟨i, rfl⟩)
    | _ => cases h
  intro n
  induction n with
  | zero =>
    refine fn_okD F sc_law_alike (by rintro _ _ ⟨_, rfl, _⟩; rfl) (by decide) ?_
    rintro X _ post ⟨cdv, A, outer, s, H, E, rfl⟩ hr ⟨d, rfl, hd, hp⟩
    rcases leafc hd with rfl | ⟨b, rfl⟩ | ⟨i, rfl⟩
    · refine sxs_cons (sx_ifF (tx_val (EX.bo (ex_isi (T := "tuple") T.isinst T.tuple (eb_v 1) (by decide +kernel) (by first | exact ki_tt | exact ki_lt | exact ki_it | exact ki_bt | exact ki_nt)))) (sxs_nil ?_))
      refine sxs_one (sx_ret (ex_and (EX.bo (ex_eqB (EX.bo (ex_isi (T := "bool") T.isinst T.bool (eb_v 0) (by decide +kernel) (by first | exact ki_tb | exact ki_lb | exact ki_ib | exact ki_bb | exact ki_nb))) (EX.bo (ex_isi (T := "bool") T.isinst T.bool (eb_v 1) (by decide +kernel) (by first | exact ki_tb | exact ki_lb | exact ki_ib | exact ki_bb | exact ki_nb))))) (fun _ => ex_one (ex_eqSelf (d := .non) rfl (eb_v 0) (eb_v 1)))) ?_)
      exact hp
    · refine sxs_cons (sx_ifF (tx_val (EX.bo (ex_isi (T := "tuple") T.isinst T.tuple (eb_v 1) (by decide +kernel) (by first | exact ki_tt | exact ki_lt | exact ki_it | exact ki_bt | exact ki_nt)))) (sxs_nil ?_))
      refine sxs_one (sx_ret (ex_and (EX.bo (ex_eqB (EX.bo (ex_isi (T := "bool") T.isinst T.bool (eb_v 0) (by decide +kernel) (by first | exact ki_tb | exact ki_lb | exact ki_ib | exact ki_bb | exact ki_nb))) (EX.bo (ex_isi (T := "bool") T.isinst T.bool (eb_v 1) (by decide +kernel) (by first | exact ki_tb | exact ki_lb | exact ki_ib | exact ki_bb | exact ki_nb))))) (fun _ => ex_one (ex_eqSelf (d := (.bl b)) rfl (eb_v 0) (eb_v 1)))) ?_)
      exact hp
    · refine sxs_cons (sx_ifF (tx_val (EX.bo (ex_isi (T := "tuple") T.isinst T.tuple (eb_v 1) (by decide +kernel) (by first | exact ki_tt | exact ki_lt | exact ki_it | exact ki_bt | exact ki_nt)))) (sxs_nil ?_))
      refine sxs_one (sx_ret (ex_and (EX.bo (ex_eqB (EX.bo (ex_isi (T := "bool") T.isinst T.bool (eb_v 0) (by decide +kernel) (by first | exact ki_tb | exact ki_lb | exact ki_ib | exact ki_bb | exact ki_nb))) (EX.bo (ex_isi (T := "bool") T.isinst T.bool (eb_v 1) (by decide +kernel) (by first | exact ki_tb | exact ki_lb | exact ki_ib | exact ki_bb | exact ki_nb))))) (fun _ => ex_one (ex_eqSelf (d := (.int i)) rfl (eb_v 0) (eb_v 1)))) ?_)
      exact hp
  | succ n ih =>
    have gAlike : FnC P w K mg base CX0 (n + 1) "_law_alike" (rAlike n) := ⟨f, fd, _, ih, hm, hk, hb⟩
    refine fn_okD F sc_law_alike (by rintro _ _ ⟨_, rfl, _⟩; rfl) (by decide) ?_
    rintro X _ post ⟨cdv, A, outer, s, H, E, rfl⟩ hr ⟨d, rfl, hd, hp⟩
    rcases hd with hd | ⟨ds, rfl, hl, hd⟩
    · rcases leafc hd with rfl | ⟨b, rfl⟩ | ⟨i, rfl⟩
      · refine sxs_cons (sx_ifF (tx_val (EX.bo (ex_isi (T := "tuple") T.isinst T.tuple (eb_v 1) (by decide +kernel) (by first | exact ki_tt | exact ki_lt | exact ki_it | exact ki_bt | exact ki_nt)))) (sxs_nil ?_))
        refine sxs_one (sx_ret (ex_and (EX.bo (ex_eqB (EX.bo (ex_isi (T := "bool") T.isinst T.bool (eb_v 0) (by decide +kernel) (by first | exact ki_tb | exact ki_lb | exact ki_ib | exact ki_bb | exact ki_nb))) (EX.bo (ex_isi (T := "bool") T.isinst T.bool (eb_v 1) (by decide +kernel) (by first | exact ki_tb | exact ki_lb | exact ki_ib | exact ki_bb | exact ki_nb))))) (fun _ => ex_one (ex_eqSelf (d := .non) rfl (eb_v 0) (eb_v 1)))) ?_)
        exact hp
      · refine sxs_cons (sx_ifF (tx_val (EX.bo (ex_isi (T := "tuple") T.isinst T.tuple (eb_v 1) (by decide +kernel) (by first | exact ki_tt | exact ki_lt | exact ki_it | exact ki_bt | exact ki_nt)))) (sxs_nil ?_))
        refine sxs_one (sx_ret (ex_and (EX.bo (ex_eqB (EX.bo (ex_isi (T := "bool") T.isinst T.bool (eb_v 0) (by decide +kernel) (by first | exact ki_tb | exact ki_lb | exact ki_ib | exact ki_bb | exact ki_nb))) (EX.bo (ex_isi (T := "bool") T.isinst T.bool (eb_v 1) (by decide +kernel) (by first | exact ki_tb | exact ki_lb | exact ki_ib | exact ki_bb | exact ki_nb))))) (fun _ => ex_one (ex_eqSelf (d := (.bl b)) rfl (eb_v 0) (eb_v 1)))) ?_)
        exact hp
      · refine sxs_cons (sx_ifF (tx_val (EX.bo (ex_isi (T := "tuple") T.isinst T.tuple (eb_v 1) (by decide +kernel) (by first | exact ki_tt | exact ki_lt | exact ki_it | exact ki_bt | exact ki_nt)))) (sxs_nil ?_))
        refine sxs_one (sx_ret (ex_and (EX.bo (ex_eqB (EX.bo (ex_isi (T := "bool") T.isinst T.bool (eb_v 0) (by decide +kernel) (by first | exact ki_tb | exact ki_lb | exact ki_ib | exact ki_bb | exact ki_nb))) (EX.bo (ex_isi (T := "bool") T.isinst T.bool (eb_v 1) (by decide +kernel) (by first | exact ki_tb | exact ki_lb | exact ki_ib | exact ki_bb | exact ki_nb))))) (fun _ => ex_one (ex_eqSelf (d := (.int i)) rfl (eb_v 0) (eb_v 1)))) ?_)
        exact hp
    · refine sxs_cons (sx_ifT (tx_val (EX.bo (ex_isi (T := "tuple") T.isinst T.tuple (eb_v 1) (by decide +kernel) (by first | exact ki_tt | exact ki_lt | exact ki_it | exact ki_bt | exact ki_nt)))) ?_)
      refine sxs_cons (sx_ifF (TX.to (k := (!true) || (!decide ((ds.length : Int) = ds.length))) (WB.t (wx_or (tx_not (tx_val (EX.bo (ex_isi (T := "tuple") T.isinst T.tuple (eb_v 0) (by decide +kernel) (by first | exact ki_tt | exact ki_lt | exact ki_it | exact ki_bt | exact ki_nt))))) (fun hB => (wx_or1 (tx_neI (EX.bo (ex_lenT T.len (eb_v 0))) (EX.bo (ex_lenT T.len (eb_v 1)))))))) (by simp)) (sxs_nil ?_))
      refine sxs_one (sx_ret (ex_eqS hr (EO.bo (ds := []) (EO.to (ds := ((List.range ((ds.length : Nat) : Int).toNat).filter fun _ => !true).map fun j : Nat => D.int j) (eo_of (pe_lc (own := [("_law_k", 2)]) (g := gName 2) rfl nd (pi_range1 (by rfl) T.range pa_w) (blkOk_by (N := ["_law_told_here", "_law_due", "_law_k"]) (sc := defScope s_law_alike) (by decide +kernel)) (fun _ _ _ _ _ => pg_name (i := 2) nd rfl (by first | exact Or.inl rfl | exact Or.inr rfl)) (pts_u) pe_u) (ro_Rif rfl _ _ (EX.bo (ex_lenT T.len (eb_v 1))) (by omega) (by intro _ _; rfl) (fun j hj _ _ _ _ _ => (tx_not (tx_val (EX.bo (ex_call gAlike hr pass0 (ea_cons (ex_ixT (ex_v 0) (eb_v 2) (at_get (by omega))) (ea_cons (ex_ixT (ex_v 1) (eb_v 2) (at_get (by omega))) ea_nil)) ⟨_, rfl, hd _ (List.getElem_mem _), rfl⟩))))) (fun j hj hp _ _ _ _ _ => (ex_v 2)))) (by rw [Bool.not_true, filter_no]; rfl))) (EO.bo (eo_lst ea_nil)) (n := 1) (m := 1) (by intro _ h; cases h) (by intro _ h; cases h)) ?_)
      exact hp
abbrev s_law_listed : Stmt := top 48
theorem sc_law_listed : FnScope ["_law_told_here", "_law_due"] ["_law_told_here", "_law_due"] (defScope s_law_listed) := ⟨rfl, rfl, rfl, by decide +kernel, rfl, by decide +kernel, by decide +kernel⟩
theorem ok_listed {f : Addr} {fd : FuncData} (F : Fun K "_law_listed" "_law_listed" s_law_listed f fd) (T : Glb mg) (gAlike : FnC P w K mg base CX0 4 "_law_alike" (rAlike 3)) : FnOk P w K mg base CX0 5 f fd ["_law_told_here", "_law_due"] (spD K rListed) := by
  have nd := sc_law_listed.nd
  refine fn_okD F sc_law_listed (by rintro _ _ ⟨_, rfl, _⟩; rfl) (by decide) ?_
  rintro X _ post ⟨cdv, A, outer, s, H, E, rfl⟩ hr ⟨xs, rfl, ⟨hl, hx⟩, hp⟩
  refine sxs_one (sx_ret (ex_and (EX.bo (ex_isi (T := "list") T.isinst T.list (eb_v 0) (by decide +kernel) (by first | exact ki_tl | exact ki_ll | exact ki_il | exact ki_bl | exact ki_nl))) (fun hB => (ex_one (ex_call gAlike (hr.mono (by decide)) pass0 (ea_cons (ex_tupleL T.tuple (ex_v 0)) (ea_cons (ex_tupleL T.tuple (ex_v 1)) ea_nil)) ⟨.tup xs, rfl, .inr ⟨xs, rfl, hl, hx⟩, rfl⟩)))) ?_)
  exact hp
end
end Lw

end
section
set_option maxHeartbeats 2000000
namespace DL
open PySem PySem.Spec L2
def isPt (n x : Int) : Bool := decide (0 ≤ x) && decide (x < n)
theorem isPt_iff {n x : Int} : isPt n x = true ↔ 0 ≤ x ∧ x < n := by unfold isPt; simp
/-- the neighbours, as they were told -/
def nb (ts : List (Int × Int)) (v : Int) : List Int := ts.flatMap fun t => (if t.1 = v then [t.2] else []) ++ (if t.2 = v then [t.1] else [])
theorem nb_snoc {ts : List (Int × Int)} {t : Int × Int} {v : Int} : nb (ts ++ [t]) v = nb ts v ++ ((if t.1 = v then [t.2] else []) ++ (if t.2 = v then [t.1] else [])) := by
  unfold nb
  rw [List.flatMap_append]
  simp
theorem nb_mem {ts : List (Int × Int)} {v u : Int} : u ∈ nb ts v ↔ (v, u) ∈ ts ∨ (u, v) ∈ ts := by
  unfold nb
  rw [List.mem_flatMap]
  constructor
  · rintro ⟨⟨a, b⟩, ht, h⟩
    rcases List.mem_append.mp h with h | h
    · by_cases e : a = v
      · have h' : u ∈ (if a = v then [b] else []) := h
        rw [if_pos e] at h'
        rw [List.mem_singleton.mp h', ← e]
        exact .inl ht
      · have h' : u ∈ (if a = v then [b] else []) := h
        rw [if_neg e] at h'
        cases h'
    · by_cases e : b = v
      · have h' : u ∈ (if b = v then [a] else []) := h
        rw [if_pos e] at h'
        rw [List.mem_singleton.mp h', ← e]
        exact .inr ht
      · have h' : u ∈ (if b = v then [a] else []) := h
        rw [if_neg e] at h'
        cases h'
  · rintro (h | h)
    · exact ⟨_, h, by simp⟩
    · exact ⟨_, h, by simp⟩
/-- what is wrong first: 0 nothing, 1 a pair that can be no tie, 2 one told twice -/
def scan (n : Int) : List (Int × Int) → List (Int × Int) → Nat
  | _, [] => 0
  | done, t :: r => if (isPt n t.1 && isPt n t.2 && !decide (t.1 = t.2)) = true then (if t ∈ done ∨ sw t ∈ done then 2 else scan n (done ++ [t]) r) else 1
theorem scan_tied {n : Int} : ∀ {r done : List (Int × Int)}, Tied n (done ++ r) → scan n done r = 0
  | [], _, _ => rfl
  | t :: r, done, h => by
    rw [scan]
    have ht := h.1 t (by simp)
    have h1 : (isPt n t.1 && isPt n t.2 && !decide (t.1 = t.2)) = true := by
      rw [Bool.and_eq_true, Bool.and_eq_true, isPt_iff, isPt_iff]
      exact ⟨⟨⟨ht.1, ht.2.1⟩, ht.2.2.1, ht.2.2.2.1⟩, by simp [ht.2.2.2.2]⟩
    rw [if_pos h1]
    have hp := List.pairwise_append.mp h.2
    have h2 : ¬ (t ∈ done ∨ sw t ∈ done) := by
      rintro (z | z)
      · exact (hp.2.2 t z t (by simp)).1 rfl
      · exact (hp.2.2 _ z t (by simp)).2 rfl
    rw [if_neg h2]
    exact scan_tied (by rw [List.append_assoc]; exact h)
theorem tied_scan {n : Int} : ∀ {r done : List (Int × Int)}, Tied n done → scan n done r = 0 → Tied n (done ++ r)
  | [], _, h, _ => by rw [List.append_nil]; exact h
  | t :: r, done, h, hs => by
    rw [scan] at hs
    split at hs
    · rename_i h1
      split at hs
      · cases hs
      · rename_i h2
        rw [Bool.and_eq_true, Bool.and_eq_true, isPt_iff, isPt_iff] at h1
        have := tied_scan (r := r) (done := done ++ [t]) ⟨fun x hx => ?_, ?_⟩ hs
        · rw [List.append_assoc] at this; exact this
        · rcases List.mem_append.mp hx with hx | hx
          · exact h.1 x hx
          · rw [List.mem_singleton.mp hx]
            exact ⟨h1.1.1.1, h1.1.1.2, h1.1.2.1, h1.1.2.2, by simpa using h1.2⟩
        · rw [List.pairwise_append]
          refine ⟨h.2, List.pairwise_singleton _ _, fun x hx y hy => ?_⟩
          rw [List.mem_singleton.mp hy]
          exact ⟨fun e => h2 (.inl (by rw [← e]; exact hx)), fun e => h2 (.inr (by rw [← e]; exact hx))⟩
    · cases hs
theorem nb_nd {n : Int} {ts : List (Int × Int)} (h : Tied n ts) (v : Int) : (nb ts v).Nodup := by
  unfold nb
  rw [List.Nodup, List.pairwise_flatMap]
  refine ⟨fun t ht => ?_, h.2.imp fun {s t} hst x hx y hy e => ?_⟩
  · have hne := (h.1 t ht).2.2.2.2
    split <;> split <;> simp
    omega
  · subst e
    rcases List.mem_append.mp hx with hx | hx <;> rcases List.mem_append.mp hy with hy | hy <;> split at hx <;> split at hy <;> first | (cases hx; done) | (cases hy; done) | skip
    all_goals (have e1 := List.mem_singleton.mp hx; have e2 := List.mem_singleton.mp hy)
    · exact hst.1 (Prod.ext (by omega) (by omega))
    · exact hst.2 (Prod.ext (by simp only [sw]; omega) (by simp only [sw]; omega))
    · exact hst.2 (Prod.ext (by simp only [sw]; omega) (by simp only [sw]; omega))
    · exact hst.1 (Prod.ext (by omega) (by omega))
/-- tied -/
def adj (ts : List (Int × Int)) (a b : Int) : Bool := decide ((a, b) ∈ ts ∨ (b, a) ∈ ts)
def pts (n : Nat) : List Int := (List.range n).map Int.ofNat
theorem pts_mem {n : Nat} {x : Int} : x ∈ pts n ↔ 0 ≤ x ∧ x < n := by
  unfold pts
  rw [List.mem_map]
  constructor
  · rintro ⟨k, hk, rfl⟩
    have := List.mem_range.mp hk
    exact ⟨Int.natCast_nonneg k, by show ((k : Nat) : Int) < n; omega⟩
  · rintro ⟨h0, h1⟩
    exact ⟨x.toNat, List.mem_range.mpr (by omega), Int.toNat_of_nonneg h0⟩
theorem pts_up (n : Nat) : (pts n).Pairwise (· < ·) := by
  unfold pts
  rw [List.pairwise_map]
  exact List.pairwise_lt_range.imp fun {a b} h => by show ((a : Nat) : Int) < ((b : Nat) : Int); omega
/-- the neighbours, rising -/
def nearL (n : Nat) (ts : List (Int × Int)) (v : Int) : List Int := (pts n).filter (adj ts v)
theorem near_mem {n : Nat} {ts : List (Int × Int)} {v x : Int} : x ∈ nearL n ts v ↔ (0 ≤ x ∧ x < n) ∧ ((v, x) ∈ ts ∨ (x, v) ∈ ts) := by
  unfold nearL adj
  rw [List.mem_filter, pts_mem, decide_eq_true_eq]
theorem near_up (n : Nat) (ts : List (Int × Int)) (v : Int) : (nearL n ts v).Pairwise (· < ·) := (pts_up n).filter _
theorem near_eq {n : Nat} {ts : List (Int × Int)} (h : Tied n ts) (v : Int) : sortI (nb ts v) = nearL n ts v := by
  refine (sortI_eq ?_ ((near_up n ts v).imp fun h => Int.le_of_lt h)).symm
  refine (List.perm_ext_iff_of_nodup ((near_up n ts v).imp fun h => Int.ne_of_lt h) (nb_nd h v)).mpr fun x => ?_
  rw [near_mem, nb_mem]
  constructor
  · exact fun z => z.2
  · rintro (z | z)
    · exact ⟨⟨(h.1 _ z).2.2.1, (h.1 _ z).2.2.2.1⟩, .inl z⟩
    · exact ⟨⟨(h.1 _ z).1, (h.1 _ z).2.1⟩, .inr z⟩
def rowsN (n : Nat) (ts : List (Int × Int)) : List D := (List.range n).map fun v : Nat => D.lst ((nearL n ts (v : Int)).map D.int)
theorem near_len (n : Nat) (ts : List (Int × Int)) (v : Int) : (nearL n ts v).length ≤ n := by
  unfold nearL
  have := List.length_filter_le (adj ts v) (pts n)
  have e : (pts n).length = n := by unfold pts; simp
  omega
theorem rowsN_len (n : Nat) (ts : List (Int × Int)) : (rowsN n ts).length = n := by unfold rowsN; simp
theorem rowsN_at {n : Nat} {ts : List (Int × Int)} {a : Int} (h : 0 ≤ a ∧ a < n) : atI (rowsN n ts) a = some (.lst ((nearL n ts a).map D.int)) := by
  obtain ⟨k, rfl⟩ := Int.eq_ofNat_of_zero_le h.1
  refine atI_nat ?_
  unfold rowsN
  rw [List.getElem?_map, List.getElem?_range (by omega)]
  rfl
/-- all ties, the lesser point first, rising -/
def pairsL (n : Nat) (ts : List (Int × Int)) : List (Int × Int) := (List.range n).flatMap fun a : Nat => ((nearL n ts (a : Int)).filter fun b => decide ((a : Int) < b)).map fun b => ((a : Int), b)
theorem pairs_mem {n : Nat} {ts : List (Int × Int)} (h : Tied n ts) {x : Int × Int} : x ∈ pairsL n ts ↔ x.1 < x.2 ∧ (x ∈ ts ∨ sw x ∈ ts) := by
  unfold pairsL
  simp only [List.mem_flatMap, List.mem_map, List.mem_filter, List.mem_range, near_mem, decide_eq_true_eq]
  constructor
  · rintro ⟨a, ha, b, ⟨⟨hb, ht⟩, hlt⟩, rfl⟩
    exact ⟨hlt, ht⟩
  · rintro ⟨hlt, ht⟩
    have hb : 0 ≤ x.1 ∧ x.1 < n ∧ 0 ≤ x.2 ∧ x.2 < n := by
      rcases ht with z | z
      · have := h.1 _ z; omega
      · have := h.1 _ z; simp only at this; omega
    refine ⟨x.1.toNat, by omega, x.2, ?_, ?_⟩
    · rw [Int.toNat_of_nonneg hb.1]
      exact ⟨⟨⟨hb.2.2.1, hb.2.2.2⟩, ht⟩, hlt⟩
    · rw [Int.toNat_of_nonneg hb.1]
theorem pairs_up (n : Nat) (ts : List (Int × Int)) : (pairsL n ts).Pairwise fun a b => leP a b = true ∧ a ≠ b := by
  unfold pairsL
  rw [List.pairwise_flatMap]
  refine ⟨fun a _ => ?_, List.pairwise_lt_range.imp fun {a b} hab x hx y hy => ?_⟩
  · rw [List.pairwise_map]
    exact ((near_up n ts (a : Int)).filter _).imp fun {x y} h => ⟨leP_iff.mpr (.inr ⟨rfl, Int.le_of_lt h⟩), fun e => Int.ne_of_lt h (congrArg Prod.snd e)⟩
  · obtain ⟨x', _, rfl⟩ := List.mem_map.mp hx
    obtain ⟨y', _, rfl⟩ := List.mem_map.mp hy
    exact ⟨leP_iff.mpr (.inl (by show (a : Int) < (b : Int); omega)), fun e => by have := congrArg Prod.fst e; simp only at this; omega⟩
end DL
namespace DL
open PySem PySem.Spec L2
def unI : List D → List Int
  | [] => []
  | .int i :: r => i :: unI r
  | _ :: r => unI r
theorem unI_map : ∀ ns : List Int, unI (ns.map D.int) = ns
  | [] => rfl
  | n :: r => by rw [List.map_cons, unI, unI_map r]
def sortD : D → D
  | .lst xs => .lst ((sortI (unI xs)).map D.int)
  | d => d
theorem sortD_lst (ns : List Int) : sortD (.lst (ns.map D.int)) = .lst ((sortI ns).map D.int) := by rw [sortD, unI_map]
end DL

end
section
set_option maxHeartbeats 4000000
namespace Pn
open PySem PySem.Spec L2 DL
def top (i : Nat) : Stmt := PySem.Challenge.pw_arrowties_k15_whole_asked_in_any_order.main.body.getD i (.Pass ⟨0, 0, 0, 0⟩)
/-- where the program's classes stand -/
structure At where
  net : Addr
  pts : Addr
  pt : Addr
  tie : Addr
  twice : Addr
structure NetK (K : PySem.W.Frag) (mg : Str → Option Value) (c : At) : Prop where
  glb : Glb mg
  cl : Cls K c.net
  n_many : NoAttr K c.net "many"
  n__rows : NoAttr K c.net "_rows"
  eNoPoints : ExF K mg "NoPoints" c.pts
  eNoPoint : ExF K mg "NoPoint" c.pt
  eNoTie : ExF K mg "NoTie" c.tie
  eTwiceTold : ExF K mg "TwiceTold" c.twice
  gMost : ∃ t, mg "MOST_POINTS" = some (.int 24 t)
/-- what the checks of numbers want of the head -/
structure PtsK (K : PySem.W.Frag) (mg : Str → Option Value) (c : At) : Prop where
  glb : Glb mg
  eNoPoints : ExF K mg "NoPoints" c.pts
  eNoPoint : ExF K mg "NoPoint" c.pt
  gMost : ∃ t, mg "MOST_POINTS" = some (.int 24 t)
theorem NetK.p {K : PySem.W.Frag} {mg : Str → Option Value} {c : At} (T : NetK K mg c) : PtsK K mg c := ⟨T.glb, T.eNoPoints, T.eNoPoint, T.gMost⟩
/-- a bound on numbers, for their texts -/
abbrev Bd (x : Int) : Prop := x.natAbs < 2 ^ 200
theorem bd_small {x : Int} (h : -1000000 ≤ x ∧ x ≤ 1000000) : Bd x := Nat.lt_of_le_of_lt (show x.natAbs ≤ 1000000 by omega) (by decide)
abbrev rPoint : List D → (Out → Prop) → Prop := fun ds post => ∃ n x : Int, ds = [.int n, .int x] ∧ post (.ret (.bl (isPt n x)))
abbrev rNeed (c : At) : List D → (Out → Prop) → Prop := fun ds post => ∃ n x : Int, ds = [.int n, .int x] ∧ (Bd n ∧ Bd x) ∧ (isPt n x = true → post (.ret .non)) ∧ (isPt n x = false → post (.exc c.pt))
abbrev rNeedPts (c : At) : List D → (Out → Prop) → Prop := fun ds post => ∃ n : Int, ds = [.int n] ∧ Bd n ∧ ((0 ≤ n ∧ n ≤ 24) → post (.ret .non)) ∧ (¬ (0 ≤ n ∧ n ≤ 24) → post (.exc c.pts))
abbrev rRows (c : At) : List D → (Out → Prop) → Prop := fun ds post => ∃ (n : Nat) (ts : List (Int × Int)), ds = [.int n, .lst (ts.map dP)] ∧ (n ≤ 24 ∧ ts.length ≤ 1000 ∧ ∀ t ∈ ts, Bd t.1 ∧ Bd t.2) ∧ (scan n [] ts = 0 → post (.ret (.lst (rowsN n ts)))) ∧ (scan n [] ts = 1 → post (.exc c.tie)) ∧ (scan n [] ts = 2 → post (.exc c.twice))
section
variable {P : Program} {w : World} {K : PySem.W.Frag} {mg : Str → Option Value} {base : Heap} {c : At}
abbrev sis_point : Stmt := top 11
theorem scis_point : FnScope ["many", "number"] ["many", "number"] (defScope sis_point) := ⟨rfl, rfl, rfl, by decide +kernel, rfl, by decide +kernel, by decide +kernel⟩
theorem ok_point {f : Addr} {fd : FuncData} (F : Fun K "is_point" "is_point" sis_point f fd) : FnOk P w K mg base CX0 1 f fd ["many", "number"] (spD K rPoint) := by
  have nd := scis_point.nd
  refine fn_okD F scis_point (by rintro _ _ ⟨_, _, rfl, _⟩; rfl) (by decide) ?_
  rintro X _ post ⟨cdv, A, outer, s, H, E, rfl⟩ hr ⟨n, x, rfl, hp⟩
  refine sxs_one (sx_ret (ex_leLt (EX.bo ex_int) (eb_v 1) (eb_v 0)) ?_)
  exact hp
abbrev sneed_points : Stmt := top 12
theorem scneed_points : FnScope ["many"] ["many"] (defScope sneed_points) := ⟨rfl, rfl, rfl, by decide +kernel, rfl, by decide +kernel, by decide +kernel⟩
theorem ok_need_points {f : Addr} {fd : FuncData} (F : Fun K "need_points" "need_points" sneed_points f fd) (T : PtsK K mg c) : FnOk P w K mg base (L2N.CX P w) 2 f fd ["many"] (spD K (rNeedPts c)) := by
  have nd := scneed_points.nd
  refine fn_okX F scneed_points (by rintro _ _ ⟨_, rfl, _⟩; rfl) (by decide) ?_
  rintro X _ post ⟨cdv, A, outer, s, H, E, rfl⟩ hr ⟨n, rfl, hn, hp, hq⟩
  obtain ⟨tm, hmost⟩ := T.gMost
  refine sxs_one (sx_if (tx_not (tx_leLe (EX.bo ex_int) (eb_v 0) (EX.bo (ex_globI hmost)))) (fun h => sxs_one (sx_raise rfl T.eNoPoints (es_join (ej_cons (es_c (n := 23) (by decide +kernel)) (ej_cons (es_fmt (EX.bo (ex_globI hmost)) (by first | assumption | exact bd_small (by omega))) (ej_cons (es_c (n := 18) (by decide +kernel)) (ej_cons (es_fmt (eb_v 0) (by first | assumption | exact bd_small (by omega))) ej_nil))))) ?_)) (fun h => sxs_nil ?_))
  · exact hq (fun z => by simp [z.1, z.2] at h)
  · exact hp (by simpa using h)
abbrev sneed_point : Stmt := top 13
theorem scneed_point : FnScope ["many", "number"] ["many", "number"] (defScope sneed_point) := ⟨rfl, rfl, rfl, by decide +kernel, rfl, by decide +kernel, by decide +kernel⟩
theorem ok_need {f : Addr} {fd : FuncData} (F : Fun K "need_point" "need_point" sneed_point f fd) (T : PtsK K mg c) (gIsPoint : FnC P w K mg base CX0 1 "is_point" rPoint) : FnOk P w K mg base (L2N.CX P w) 2 f fd ["many", "number"] (spD K (rNeed c)) := by
  have nd := scneed_point.nd
  refine fn_okX F scneed_point (by rintro _ _ ⟨_, _, rfl, _⟩; rfl) (by decide) ?_
  rintro X _ post ⟨cdv, A, outer, s, H, E, rfl⟩ hr ⟨n, x, rfl, ⟨hn, hx⟩, hp, hq⟩
  refine sxs_one (sx_if (tx_not (tx_val (EX.bo (ex_call gIsPoint (hr.mono (by decide)) pass0 (ea_cons (ex_v 0) (ea_cons (ex_v 1) ea_nil)) ⟨_, _, rfl, rfl⟩)))) (fun h => sxs_one (sx_raise rfl T.eNoPoint (es_join (ej_cons (es_fmt (eb_v 1) (by assumption)) (ej_cons (es_c (n := 20) (by decide +kernel)) (ej_cons (es_fmt (eb_v 0) (by assumption)) (ej_cons (es_c (n := 12) (by decide +kernel)) ej_nil))))) ?_)) (fun h => sxs_nil ?_))
  · exact hq (by simpa using h)
  · exact hp (by simpa using h)
abbrev s_rows_of : Stmt := top 14
theorem sc_rows_of : FnScope ["many", "ties", "rows", "one", "other", "point", "row"] ["many", "ties"] (defScope s_rows_of) := ⟨rfl, rfl, rfl, by decide +kernel, rfl, by decide +kernel, by decide +kernel⟩
theorem ok_rows {f : Addr} {fd : FuncData} (F : Fun K "_rows_of" "_rows_of" s_rows_of f fd) (T : NetK K mg c) (gIsPoint : FnC P w K mg base CX0 1 "is_point" rPoint) : FnOk P w K mg base (L2N.CX P w) 2 f fd ["many", "ties"] (spF K (rRows c)) := by
  have nd := sc_rows_of.nd
  refine okXN F sc_rows_of (fun vs H Q E h => ?_) (fun cdv A outer s H vs Q E hr h => ?_)
  · obtain ⟨ds, post, r, ⟨_, _, rfl, _⟩, _⟩ := h
    exact r.len
  · obtain ⟨ds, post, r0, ⟨n, ts, rfl, ⟨hn, hl, hbd⟩, hp0, hp1, hp2⟩, k1, k2⟩ := h
    have i0 : Same H H := Same.refl _
    have s0 := sr_start (N := ["many", "ties", "rows", "one", "other", "point", "row"]) i0 r0 (Nat.le_of_ble_eq_true rfl)
    refine ⟨_, pss_cons (ps_setLc (i := 2) (own := [("point", 5)]) (g := gName 5) (tt := tYes) rfl nd rfl rfl (sw_true rfl rfl rfl (by decide +kernel)) (pi_range1 (by rfl) T.glb.range pa_w) (blkOk_by (N := ["many", "ties", "rows", "one", "other", "point", "row"]) (sc := defScope s_rows_of) (by decide +kernel)) (fun _ _ _ _ _ => pg_name (i := 5) nd rfl (Or.inl rfl)) (fun _ _ _ _ _ => pts_nil) (fun _ _ _ _ _ => pe_lst pa_nil))
      (pss_cons (ps_for (passes_of rfl) rfl (pi_list pe_w) (pg_tup rfl (pgs_cons (pg_name (i := 3) nd rfl (Or.inl rfl)) (pgs_cons (pg_name (i := 4) nd rfl (Or.inl rfl)) pgs_nil)))
        (pss_cons (ps_if pt_w (pss_one ps_w) pss_nil) (pss_cons (ps_if (pt_cmpR op_in_seq (pv 4) (pe_ix ix_list (pv 2) (pv 3) (fun _ _ => rfl)) (by rfl)) (pss_one ps_w) pss_nil)
          (pss_cons (ps_expr (pe_bm PySem.F.plainAttrs_list PySem.F.slot_list_append PySem.F.type_list_append mt_append (pe_ix ix_list (pv 2) (pv 3) (fun _ _ => rfl)) (pa_cons (pv 4) pa_nil)))
            (pss_one (ps_expr (pe_bm PySem.F.plainAttrs_list PySem.F.slot_list_append PySem.F.type_list_append mt_append (pe_ix ix_list (pv 2) (pv 4) (fun _ _ => rfl)) (pa_cons (pv 3) pa_nil))))))))
      pss_w), ?_⟩
    -- rows = [[] for point in range(many)]
    refine eab_cons (eb_v 0) eab_nil (by intro _ _; rfl) _ _ _ _ _ _ s0 fun vs1 H1 H01 g1 rv1 => ?_
    cases rv1 with
    | cons rv1 rz =>
      cases rz
      cases rv1
      have s1 := s0.grow g1
      have no7 : ∀ a b : C, a.own = false → b.own = false → NoOwn [a, b, .any, .any, .any, .any, .any] := fun a b ha hb c hc => by
        simp only [List.mem_cons, List.not_mem_nil, or_false] at hc
        rcases hc with rfl | rfl | rfl | rfl | rfl | rfl | rfl <;> first | assumption | rfl
      refine ⟨(n : Int), rfl, by omega, by omega, fun L hL => ?_⟩
      refine lc_range (lo := 0) (n := n) (fun j H' => ∃ ls, RowsAt H H01 H' L (List.replicate j []) ls ∧ Same H01 H' ∧ Same H1 H') ⟨[], ⟨g1.i.free hL, g1.h.free hL, upd_same, List.nodup_nil, by simp, rfl, fun i l ns h1 => by simp at h1⟩, g1.i.trans (same_upd hL), same_upd hL⟩ ?_ ?_
      · rintro j H' hj ⟨ls, R, e1, e2⟩
        refine ⟨wipe1, tYes_if ⟨Nat.zero_le _, fun p hp => ⟨ls.map V.ref, ?_, ?_, ls ++ [p], ?_⟩⟩⟩
        · have : L ≠ p := fun e => by rw [← e, R.h] at hp; cases hp
          rw [upd_ne this]; exact R.h
        · rw [List.length_map, R.len, List.length_replicate]
          exact Nat.lt_of_lt_of_le (show j < 1000 by omega) (by decide)
        · have hpL : p ≠ L := fun e => by rw [e, R.h] at hp; cases hp
          refine ⟨?_, fun a u e => ?_, fun a u e => ?_⟩
          · have q := R.more e1 (g1.h.trans e2) hp
            rw [List.map_append] at q
            rw [List.replicate_succ']
            exact q
          · rw [upd_ne (ne_of_none e R.h0), upd_ne (ne_of_none (e1 a u e) hp)]; exact e1 a u e
          · rw [upd_ne (ne_of_none e hL), upd_ne (ne_of_none (e2 a u e) hp)]; exact e2 a u e
      · rintro H2 ⟨ls0, R0, e1, e2⟩
        have s2 : SR K H H H01 H2 _ _ := (s1.heap (no7 (.sh (.int n)) (.sh (.lst (ts.map dP))) rfl rfl) e1 (g1.h.trans e2)).setAny 2 (some (.ref L))
        -- for one, other in ties
        refine (ex_v 1 : EX _ _ _ (.lst (ts.map dP))) _ _ _ _ _ _ s2 fun vt H3 H03 g3 rt => ?_
        cases rt with
        | @lst at_ vts _ hvt rvt =>
          have tsl : vts.length = ts.length := by rw [rvt.len, List.length_map]
          refine ⟨at_, rfl, ⟨vts, SqL.of (g3.i _ _ hvt)⟩, for_list (K := K) (a := at_) (xs := vts) (fun j σ' H' => ∃ H0' ls, Same H03 H0' ∧ SR K H H H0' H' σ' [.sh (.int n), .sh (.lst (ts.map dP)), .any, .any, .any, .any, .any] ∧ σ'[2]? = some (some (.ref L)) ∧ RowsAt H H0' H' L ((List.range n).map fun v : Nat => nb (ts.take j) (v : Int)) ls ∧ scan n [] ts = scan n (ts.take j) (ts.drop j))
            ⟨H03, ls0, Same.refl _, s2.grow g3, List.getElem?_set_self (by rw [s1.len]; exact Nat.le_of_ble_eq_true rfl), ?_, by simp⟩ (fun j σ' H' _ ⟨H0', _, e, s', _⟩ => SqL.of (s'.i _ _ (e _ _ hvt))) ?_ ?_⟩
          · have q := R0.grow g3
            have e : (List.range n).map (fun v : Nat => nb (ts.take 0) (v : Int)) = List.replicate n [] := by
              rw [List.take_zero]
              show (List.range n).map (fun _ => ([] : List Int)) = _
              rw [List.map_const', List.length_range]
            rw [e]
            exact q
          · rintro j x σ' H' hx ⟨H04, ls, e3, s4, hσ2, R, hsc⟩
            obtain ⟨d, hd, rd⟩ := rvt.get hx
            rw [List.getElem?_map] at hd
            cases ht : ts[j]? with
            | none => rw [ht] at hd; cases hd
            | some t =>
              rw [ht] at hd
              obtain rfl := (Option.some.inj hd).symm
              have hjt := (List.getElem?_eq_some_iff.mp ht).1
              have htm := List.mem_of_getElem? ht
              have hdrop : ts.drop j = t :: ts.drop (j + 1) := by
                rw [List.drop_eq_getElem_cons hjt]
                congr 1
                exact (List.getElem?_eq_some_iff.mp ht).2
              have htake : ts.take (j + 1) = ts.take j ++ [t] := by rw [List.take_add_one, ht]; rfl
              obtain ⟨b1, b2⟩ := hbd t htm
              rw [hdrop, scan] at hsc
              cases rd with
              | tup hta rta =>
                cases rta with
                | cons ra rta =>
                  cases rta with
                  | cons rb rta =>
                    cases rta
                    cases ra
                    cases rb
                    refine ⟨_, _, rfl, SqT.of (s4.i _ _ (e3 _ _ hta)), rfl, _, _, rfl, _, _, rfl, rfl, ?_⟩
                    have s5 : SR K H H H04 H' _ [.sh (.int n), .sh (.lst (ts.map dP)), .any, .sh (.int t.1), .sh (.int t.2), .any, .any] := (s4.set (i := 3) (v := .int t.1) (d := .int t.1) (.int _)).set (i := 4) (v := .int t.2) (d := .int t.2) (.int _)
                    have no5 : NoOwn [.sh (.int n), .sh (.lst (ts.map dP)), .any, .sh (.int t.1), .sh (.int t.2), .any, .any] := fun c hc => by
                      simp only [List.mem_cons, List.not_mem_nil, or_false] at hc
                      rcases hc with rfl | rfl | rfl | rfl | rfl | rfl | rfl <;> rfl
                    have hlen : σ'.length = 7 := s4.len
                    have q2 : ((σ'.set 3 (some (.int t.1))).set 4 (some (.int t.2)))[2]? = some (some (.ref L)) := by
                      rw [List.getElem?_set_ne (by decide), List.getElem?_set_ne (by decide)]; exact hσ2
                    have q3 : ((σ'.set 3 (some (.int t.1))).set 4 (some (.int t.2)))[3]? = some (some (.int t.1)) := by
                      rw [List.getElem?_set_ne (by decide), List.getElem?_set_self (by omega)]
                    have q4 : ((σ'.set 3 (some (.int t.1))).set 4 (some (.int t.2)))[4]? = some (some (.int t.2)) := by
                      rw [List.getElem?_set_self (by rw [List.length_set]; omega)]
                    generalize (σ'.set 3 (some (.int t.1))).set 4 (some (.int t.2)) = σ5 at s5 q2 q3 q4 ⊢
                    have tk : ∀ H9, L2N.Takes (cxOf (L2N.CX P w) P w K mg base ["many", "ties", "rows", "one", "other", "point", "row"] "_rows_of" (defScope s_rows_of) f cdv A outer s H E) (WC K H H H9 fun Cl _ => post (.exc Cl)) := fun H9 => (L2N.takes_of (E := E) rfl rfl rfl rfl).imp fun cl d' σ6 H6 hw => by
                      obtain ⟨Cl, cs6, H06, rfl, rfl, h3, h4, h5⟩ := hw
                      exact k2 Cl H6 h5 h4.gr.h
                    refine TX.run (WB.t (wx_or (tx_not (tx_val (EX.bo (ex_call gIsPoint (hr.mono (by decide)) pass0 (ea_cons (ex_v 0) (ea_cons (ex_v 3) ea_nil)) ⟨_, _, rfl, rfl⟩)))) (fun hB => (wx_or (tx_not (tx_val (EX.bo (ex_call gIsPoint (hr.mono (by decide)) pass0 (ea_cons (ex_v 0) (ea_cons (ex_v 4) ea_nil)) ⟨_, _, rfl, rfl⟩)))) (fun hB => (wx_or1 (tx_eqI (eb_v 3) (eb_v 4)))))))) s5 fun H5 H05 g5 => ?_
                    refine ite2 (fun hk => ?_) (fun hk => ?_)
                    · refine SX.run (F := { nx := fun _ => False, rt := fun _ => False, ex := fun Cl _ => post (.exc Cl) }) (sx_raise rfl T.eNoTie (es_join (ej_cons (es_c (n := 6) (by decide +kernel)) (ej_cons (es_fmt (eb_v 3) (by first | assumption | exact bd_small (by omega))) (ej_cons (es_c (n := 7) (by decide +kernel)) (ej_cons (es_fmt (eb_v 4) (by first | assumption | exact bd_small (by omega))) (ej_cons (es_c (n := 27) (by decide +kernel)) (ej_cons (es_fmt (eb_v 0) (by first | assumption | exact bd_small (by omega))) (ej_cons (es_c (n := 12) (by decide +kernel)) ej_nil)))))))) (hp1 ?_)) (s5.grow g5) (DEnd.raise (tk _))
                      rw [hsc, if_neg]
                      intro z
                      simp only [Bool.and_eq_true, Bool.not_eq_true', decide_eq_false_iff_not] at z
                      simp [z.1.1, z.1.2, z.2] at hk
                    · have hgood : (isPt n t.1 && isPt n t.2 && !decide (t.1 = t.2)) = true := by
                        cases h1 : isPt n t.1 <;> cases h2 : isPt n t.2 <;> cases h3 : decide (t.1 = t.2) <;> simp [h1, h2, h3] at hk ⊢
                      rw [if_pos hgood] at hsc
                      simp only [Bool.and_eq_true, isPt_iff, Bool.not_eq_true', decide_eq_false_iff_not] at hgood
                      obtain ⟨⟨⟨a0, a1⟩, c0, c1⟩, hne⟩ := hgood
                      have s6 := s5.grow g5
                      have R6 := R.grow g5
                      have hls : ls.length = n := by rw [R.len, List.length_map, List.length_range]
                      have la : t.1.toNat < ls.length := by omega
                      have lb : t.2.toNat < ls.length := by omega
                      have ea : ls[t.1.toNat]? = some ls[t.1.toNat] := List.getElem?_eq_getElem la
                      have eb : ls[t.2.toNat]? = some ls[t.2.toNat] := List.getElem?_eq_getElem lb
                      have da : ((List.range n).map fun v : Nat => nb (ts.take j) (v : Int))[t.1.toNat]? = some (nb (ts.take j) t.1) := by
                        rw [List.getElem?_map, List.getElem?_range (by omega)]
                        show some (nb (ts.take j) ((t.1.toNat : Nat) : Int)) = _
                        rw [Int.toNat_of_nonneg a0]
                      have db : ((List.range n).map fun v : Nat => nb (ts.take j) (v : Int))[t.2.toNat]? = some (nb (ts.take j) t.2) := by
                        rw [List.getElem?_map, List.getElem?_range (by omega)]
                        show some (nb (ts.take j) ((t.2.toNat : Nat) : Int)) = _
                        rw [Int.toNat_of_nonneg c0]
                      have ata : atI (ls.map V.ref) t.1 = some (.ref ls[t.1.toNat]) := by
                        have := atI_nat (xs := ls.map V.ref) (v := V.ref ls[t.1.toNat]) (by rw [List.getElem?_map, ea]; rfl)
                        rwa [Int.toNat_of_nonneg a0] at this
                      have atb : atI (ls.map V.ref) t.2 = some (.ref ls[t.2.toNat]) := by
                        have := atI_nat (xs := ls.map V.ref) (v := V.ref ls[t.2.toNat]) (by rw [List.getElem?_map, eb]; rfl)
                        rwa [Int.toNat_of_nonneg c0] at this
                      have hla := R6.at_ _ _ _ ea da
                      have sz : ∀ v, (nb (ts.take j) v).length < 1000000 := fun v => by
                        have h1 : ∀ l : List (Int × Int), (nb l v).length ≤ 2 * l.length := fun l => by
                          induction l with
                          | nil => simp [nb]
                          | cons t r ih =>
                            unfold nb at ih ⊢
                            rw [List.flatMap_cons, List.length_append, List.length_cons]
                            have h2 : ((if t.1 = v then [t.2] else []) ++ (if t.2 = v then [t.1] else [])).length ≤ 2 := by
                              split <;> split <;> simp
                            omega
                        have h3 := h1 (ts.take j)
                        rw [List.length_take] at h3
                        omega
                      -- if other in rows[one]
                      refine ⟨_, q4, _, q2, _, q3, L, _, _, _, rfl, rfl, SqL.of R6.h, ata, _, _, rfl, .inl (SqL.of hla.2.2), rfl, flat_ints, _, rfl, ?_⟩
                      rw [if_neg Bool.false_ne_true, inV_ints]
                      refine ite2 (fun hk2 => ?_) (fun hk2 => ?_)
                      · have hk2 := of_decide_eq_true hk2
                        rw [nb_mem] at hk2
                        refine SX.run (F := { nx := fun _ => False, rt := fun _ => False, ex := fun Cl _ => post (.exc Cl) }) (sx_raise rfl T.eTwiceTold (es_join (ej_cons (es_c (n := 14) (by decide +kernel)) (ej_cons (es_fmt (eb_v 3) (by first | assumption | exact bd_small (by omega))) (ej_cons (es_c (n := 7) (by decide +kernel)) (ej_cons (es_fmt (eb_v 4) (by first | assumption | exact bd_small (by omega))) (ej_cons (es_c (n := 22) (by decide +kernel)) ej_nil)))))) (hp2 ?_)) s6 (DEnd.raise (tk _))
                        rw [hsc, if_pos]
                        exact hk2
                      · have hk2 : ¬ t.2 ∈ nb (ts.take j) t.1 := fun z => hk2 (decide_eq_true z)
                        rw [nb_mem] at hk2
                        rw [if_neg (show ¬ (t ∈ ts.take j ∨ sw t ∈ ts.take j) from hk2)] at hsc
                        -- rows[one].append(other)
                        refine ⟨_, q2, _, q3, L, _, _, _, rfl, rfl, SqL.of R6.h, ata, .inl ⟨rfl, _, SqL.of hla.2.2⟩, _, q4, _, _, _, rfl, rfl, hla.2.2, ?_, ?_⟩
                        · rw [List.length_map]; exact Nat.lt_trans (sz _) (by decide)
                        have R7 := R6.put (x := t.2) ea da
                        rw [List.map_append] at R7
                        have s7 := s6.outer no5 (o := .lst ((nb (ts.take j) t.1).map V.int ++ [V.int t.2])) hla.1 hla.2.1
                        have hneq : t.1.toNat ≠ t.2.toNat := by omega
                        have db7 : (((List.range n).map fun v : Nat => nb (ts.take j) (v : Int)).set t.1.toNat (nb (ts.take j) t.1 ++ [t.2]))[t.2.toNat]? = some (nb (ts.take j) t.2) := by
                          rw [List.getElem?_set_ne hneq]; exact db
                        have hlb := R7.at_ _ _ _ eb db7
                        -- rows[other].append(one)
                        refine ⟨_, q2, _, q4, L, _, _, _, rfl, rfl, SqL.of R7.h, atb, .inl ⟨rfl, _, SqL.of hlb.2.2⟩, _, q3, _, _, _, rfl, rfl, hlb.2.2, ?_, ?_⟩
                        · rw [List.length_map]; exact Nat.lt_trans (sz _) (by decide)
                        have R8 := R7.put (x := t.1) eb db7
                        rw [List.map_append] at R8
                        have s8 := s7.outer no5 (o := .lst ((nb (ts.take j) t.2).map V.int ++ [V.int t.1])) hlb.1 hlb.2.1
                        refine ⟨H05, ls, e3.trans g5.b, (s8.setAny' 3 q3).setAny' 4 q4, q2, ?_, by rw [hsc, htake]⟩
                        have e : ((((List.range n).map fun v : Nat => nb (ts.take j) (v : Int)).set t.1.toNat (nb (ts.take j) t.1 ++ [t.2])).set t.2.toNat (nb (ts.take j) t.2 ++ [t.1])) = (List.range n).map fun v : Nat => nb (ts.take (j + 1)) (v : Int) := by
                          refine List.ext_getElem? fun i => ?_
                          rw [htake]
                          by_cases i2 : t.2.toNat = i
                          · subst i2
                            rw [List.getElem?_set_self (by rw [List.length_set, List.length_map, List.length_range]; omega), List.getElem?_map, List.getElem?_range (by omega)]
                            show _ = some (nb (ts.take j ++ [t]) ((t.2.toNat : Nat) : Int))
                            rw [Int.toNat_of_nonneg c0, nb_snoc, if_neg hne, if_pos rfl, List.nil_append]
                          · rw [List.getElem?_set_ne i2]
                            by_cases i1 : t.1.toNat = i
                            · subst i1
                              rw [List.getElem?_set_self (by rw [List.length_map, List.length_range]; omega), List.getElem?_map, List.getElem?_range (by omega)]
                              show _ = some (nb (ts.take j ++ [t]) ((t.1.toNat : Nat) : Int))
                              rw [Int.toNat_of_nonneg a0, nb_snoc, if_pos rfl, if_neg (fun z => hne z.symm), List.append_nil]
                            · rw [List.getElem?_set_ne i1, List.getElem?_map, List.getElem?_map]
                              by_cases hi : i < n
                              · rw [List.getElem?_range hi]
                                show some (nb (ts.take j) (i : Int)) = some (nb (ts.take j ++ [t]) (i : Int))
                                rw [nb_snoc, if_neg (by omega), if_neg (by omega), List.append_nil, List.append_nil]
                              · rw [List.getElem?_eq_none (by rw [List.length_range]; omega)]
                                rfl
                        rw [← e]
                        exact R8
          · rintro σ' H' ⟨H04, ls, e3, s4, hσ2, R, hsc⟩
            have no4 : NoOwn [.sh (.int n), .sh (.lst (ts.map dP)), .any, .any, .any, .any, .any] := no7 _ _ rfl rfl
            rw [tsl, List.take_length] at R
            rw [tsl, List.take_length, List.drop_length] at hsc
            obtain ⟨H05, s5⟩ := R.freezeF (K := K) s4.gr.h (n := 7) s4.len hσ2
            have hz : scan n [] ts = 0 := by rw [hsc]; rfl
            have ti : Tied n ts := by have := tied_scan (n := n) (r := ts) (done := []) ⟨(fun _ h => (nomatch h)), List.Pairwise.nil⟩ hz; simpa using this
            refine SXs.run (F := { nx := fun _ => False, rt := fun d => post (.ret d) }) (cs := [.any, .any, .sh (.lst (((List.range n).map fun v : Nat => nb ts (v : Int)).map fun ns : List Int => D.lst (ns.map D.int))), .any, .any, .any, .any]) ?_ s5 ⟨fun _ _ _ _ _ _ z => z.elim, fun v d H0' H' g r z => k1 d v H' H0' z g r, fun _ _ _ _ _ _ z => z.elim, fun _ _ _ _ _ _ z => z.elim, takes_no⟩
            have T : Glb mg := T.glb
            refine sxs_one (sx_ret (EO.x (eo_of (pe_lc (own := [("row", 6)]) (g := gName 6) (tt := tYes) rfl nd (pi_list pe_w) (blkOk_by (N := ["many", "ties", "rows", "one", "other", "point", "row"]) (sc := defScope s_rows_of) (by decide +kernel)) (fun _ _ _ _ _ => pg_name (i := 6) nd rfl (Or.inl rfl)) (fun _ _ _ _ _ => pts_nil) pe_u) (ro_L rfl sortD (ex_v 2) ?_ ?_))) ?_)
            · rw [List.length_map, List.length_map, List.length_range]; omega
            · intro j d hd
              rw [List.getElem?_map] at hd
              cases hns : ((List.range n).map fun v : Nat => nb ts (v : Int))[j]? with
              | none => rw [hns] at hd; cases hd
              | some ns =>
                rw [hns] at hd
                obtain rfl := (Option.some.inj hd).symm
                rw [sortD_lst]
                intro _ _ _ _ _
                exact EO.x (eo_sortedI T.sorted (eb_v 6))
            · have e : (((List.range n).map fun v : Nat => nb ts (v : Int)).map fun ns : List Int => D.lst (ns.map D.int)).map sortD = rowsN n ts := by
                unfold rowsN
                rw [List.map_map, List.map_map]
                refine List.map_congr_left fun v _ => ?_
                show sortD (.lst ((nb ts (v : Int)).map D.int)) = _
                rw [sortD_lst, near_eq ti]
              rw [e]
              exact hp0 hz
/-- the net of n points with these ties -/
abbrev netD (c : At) (n : Nat) (ts : List (Int × Int)) : D := .obj c.net [("many", .int n), ("_rows", .lst (rowsN n ts))]
abbrev rNew (c : At) : List D → (Out → Prop) → Prop := fun ds post => ∃ (n : Int) (ts : List (Int × Int)), ds = [.int n, .lst (ts.map dP)] ∧ (Bd n ∧ ts.length ≤ 1000 ∧ ∀ t ∈ ts, Bd t.1 ∧ Bd t.2) ∧ (¬ (0 ≤ n ∧ n ≤ 24) → post (.exc c.pts)) ∧
  ((0 ≤ n ∧ n ≤ 24) → (scan n [] ts = 0 → post (.ret (netD c n.toNat ts))) ∧ (scan n [] ts = 1 → post (.exc c.tie)) ∧ (scan n [] ts = 2 → post (.exc c.twice)))
theorem mr_ : ¬ (("many" : Str) = "_rows") := by decide +kernel
theorem rm_ : ¬ (("_rows" : Str) = "many") := by decide +kernel
abbrev sNet___init__ : Stmt := inClass (top 15) 0
theorem scNet___init__ : FnScope ["self", "many", "ties"] ["self", "many", "ties"] (defScope sNet___init__) := ⟨rfl, rfl, rfl, by decide +kernel, rfl, by decide +kernel, by decide +kernel⟩
theorem ok_init {f fR : Addr} {fd fdR : FuncData} (F : Fun K "__init__" "Net.__init__" sNet___init__ f fd) (T : NetK K mg c) (FR : FnOk P w K mg base (L2N.CX P w) 2 fR fdR ["many", "ties"] (spF K (rRows c))) (gNeedPts : FnC P w K mg base (L2N.CX P w) 2 "need_points" (rNeedPts c)) (mR : mg "_rows_of" = some (.ref fR)) (kR : PySem.W.keepIn K (.ref fR) = true) (bR : Binds K fdR ["many", "ties"] []) :
    FnOk P w K mg base (L2N.CX P w) 3 f fd ["self", "many", "ties"] (spMk K c.net (rNew c)) := by
  have nd := scNet___init__.nd
  refine okXN F scNet___init__ (fun vs H Q E h => ?_) (fun cdv A outer s H vs Q E hr h => ?_)
  · obtain ⟨Hc, x, dx, vs', ds, post, rfl, rfl, _, _, _, r, ⟨_, _, rfl, _⟩, _⟩ := h
    rw [List.length_cons, r.len]
    rfl
  · obtain ⟨Hc, x, dx, vs', ds, post, rfl, rfl, hx, hdx, hne, r0, ⟨n, ts, rfl, ⟨hn, hl, hbd⟩, hp0, hp1⟩, k1, k2⟩ := h
    cases r0 with
    | cons rn r0 =>
      cases r0 with
      | cons rt r0 =>
        cases r0
        cases rn
        rename_i vt
        have e0 : Same Hc (upd (upd Hc dx (.own x)) x (.ins c.net dx [])) := (same_upd hdx).trans (same_upd (by rw [upd_ne hne.symm]; exact hx))
        refine ⟨_, pss_cons (ps_expr pe_w rfl) (pss_cons (ps_fld (pv 0) (pv 1) rfl) (pss_one (ps_fld (pv 0) (pe_callS FR (hr.mono (by decide)) rfl mR kR bR (fun σ => L2N.passAt (W := fun cls d _ H => E cls d H) (L2N.takes_of rfl rfl rfl rfl) σ) (pa_cons (pv 1) (pa_cons (pv 2) pa_nil))) rfl))), ?_⟩
        have s0 := sr_start (N := ["self", "many", "ties"]) (vs := [.ref x, .int n, vt]) (ds := [.opq x, .int n, .lst (ts.map dP)]) e0 (.cons (.opq x) (.cons (.int n) (.cons rt .nil))) (Nat.le_of_ble_eq_true rfl)
        refine (exr_call (post := fun o => (o = .ret .non ∧ (0 ≤ n ∧ n ≤ 24)) ∨ (o = .exc c.pts ∧ ¬ (0 ≤ n ∧ n ≤ 24))) gNeedPts (hr.mono (by decide)) (ea_cons (ex_v 1) ea_nil) (by exact ⟨n, rfl, hn, fun h => .inl ⟨rfl, h⟩, fun h => .inr ⟨rfl, h⟩⟩)) _ _ _ _ _ _ s0 ((L2N.takes_of (E := E) rfl rfl rfl rfl).imp fun cl d' σ6 H6 hw => ?_) fun v0 d0 H1 H01 g1 _ hz0 => ?_
        · obtain ⟨Cl, cs6, H06, rfl, rfl, h3, h4, h5, h6⟩ := hw
          refine k2 Cl H6 ?_ (e0.trans h4.gr.h)
          rcases h6 with ⟨e, _⟩ | ⟨e, hz⟩
          · cases e
          · cases e; exact hp0 hz
        · have hb : 0 ≤ n ∧ n ≤ 24 := by
            rcases hz0 with ⟨_, hz⟩ | ⟨e, _⟩
            · exact hz
            · cases e
          obtain ⟨m, rfl⟩ := Int.eq_ofNat_of_zero_le hb.1
          have hx1 : H1 x = some (.ins c.net dx []) := g1.h _ _ upd_same
          have e1 : Same Hc H1 := e0.trans g1.h
          obtain ⟨hq0, hq1, hq2⟩ := hp1 hb
          -- self.many = many
          refine ⟨_, rfl, _, rfl, x, c.net, dx, [], rfl, hx1, T.cl, T.n_many, (by show 0 < 1000; decide), ?_⟩
          have e2 : Same Hc (upd H1 x (.ins c.net dx (putF "many" (.int m) []))) := fun a u e => by rw [upd_ne (ne_of_none e hx)]; exact e1 a u e
          -- self._rows = _rows_of(many, ties)
          refine ⟨_, rfl, _, rfl, [.int m, .lst (ts.map dP)], fun o => (o = .ret (.lst (rowsN m ts)) ∧ scan m [] ts = 0) ∨ (o = .exc c.tie ∧ scan m [] ts = 1) ∨ (o = .exc c.twice ∧ scan m [] ts = 2), .cons (.int _) (.cons (rt.mono e2) .nil),
            ⟨m, ts, rfl, ⟨by omega, hl, hbd⟩, fun z => .inl ⟨rfl, z⟩, fun z => .inr (.inl ⟨rfl, z⟩), fun z => .inr (.inr ⟨rfl, z⟩)⟩, ?_, ?_⟩
          · rintro d v H3 F (⟨e, hz⟩ | ⟨e, _⟩ | ⟨e, _⟩) g3 r3
            · cases e
              have hx3 := g3.h x _ upd_same
              have fx : F x = none := not_tup g3 rfl upd_same (fun xs z => by cases z)
              refine ⟨_, rfl, x, c.net, dx, _, rfl, hx3, T.cl, T.n__rows, (by show (putF "many" (V.int m) []).length < 1000; show 1 < 1000; decide), ?_⟩
              have epf : putF "_rows" v (putF "many" (.int m) []) = ([("many", V.int m), ("_rows", v)] : List (Str × V)) := by
                show (if ("many" : Str) = "_rows" then [(("many" : Str), v)] else (("many" : Str), V.int m) :: [(("_rows" : Str), v)]) = _
                rw [if_neg mr_]
              refine k1 _ _ (upd F x (.ins c.net dx (putF "_rows" v (putF "many" (.int m) [])))) (hq0 hz) ⟨fun _ _ e => (by cases e), fun a u e => ?_, fun a u e => ?_, fun a u e => ?_⟩ (.obj upd_same ?_)
              · by_cases h : a = x
                · subst h; rw [upd_same] at e ⊢; exact e
                · rw [upd_ne h] at e ⊢; exact g3.i a u e
              · rw [upd_ne (ne_of_none e hx)]; exact g3.h a u (e2 a u e)
              · by_cases h : a = x
                · subst h; exact .inr (.inl hx)
                · rw [upd_ne h] at e
                  rcases g3.n a u e with z | z | z
                  · cases z
                  · exact .inr (.inl (e2.free z))
                  · exact .inr (.inr z)
              · rw [epf]
                exact .cons (.int _) (.cons (r3.mono (same_upd fx)) .nil)
            · cases e
            · cases e
          · rintro Cl H3 (⟨e, _⟩ | ⟨e, hz⟩ | ⟨e, hz⟩) hs3
            · cases e
            · cases e; exact k2 _ _ (hq1 hz) (e2.trans hs3)
            · cases e; exact k2 _ _ (hq2 hz) (e2.trans hs3)
end
end Pn

end
section
set_option maxHeartbeats 4000000
namespace Pn
open PySem PySem.Spec L2 DL
theorem l_many {n : D} {r : D} : ([(("many" : Str), n), (("_rows" : Str), r)] : List (Str × D)).lookup ("many" : Str) = some n := by
  rw [List.lookup_cons]
  rfl
theorem l__rows {n : D} {r : D} : ([(("many" : Str), n), (("_rows" : Str), r)] : List (Str × D)).lookup ("_rows" : Str) = some r := by
  have h : (("_rows" : Str) == ("many" : Str)) = false := by decide +kernel
  rw [List.lookup_cons, h]
  simp only
  rw [List.lookup_cons]
  rfl
theorem l_no {n : D} {r : D} {m : Str} (h1 : (m == ("many" : Str)) = false) (h2 : (m == ("_rows" : Str)) = false) : ([(("many" : Str), n), (("_rows" : Str), r)] : List (Str × D)).lookup m = none := by
  rw [List.lookup_cons, h1]
  simp only
  rw [List.lookup_cons, h2]
  rfl
/-- the built-ins and the program's class -/
structure LawK (K : PySem.W.Frag) (mg : Str → Option Value) (c : At) : Prop extends Glb mg, NetK K mg c
theorem isPt_of {n x : Int} (h : 0 ≤ x ∧ x < n) : isPt n x = true := isPt_iff.mpr h
/-- the program's class is called -/
structure MkC (P : Program) (w : World) (K : PySem.W.Frag) (mg : Str → Option Value) (base : Heap) (c : At) (f : Addr) (fd : FuncData) (ps : List Str) : Prop where
  ok : FnOk P w K mg base (L2N.CX P w) 3 f fd ps (spMk K c.net (rNew c))
  made : Mk K c.net f
  bi : Binds K fd ps []
  g : mg "Net" = some (.ref c.net)
abbrev rTied (c : At) : List D → (Out → Prop) → Prop := fun ds post => ∃ (n : Nat) (ts : List (Int × Int)) (a b : Int), ds = [netD c n ts, .int a, .int b] ∧ (n ≤ 24 ∧ Bd a ∧ Bd b) ∧ ((isPt n a && isPt n b) = true → post (.ret (.bl (adj ts a b)))) ∧ ((isPt n a && isPt n b) = false → post (.exc c.pt))
abbrev rNear (c : At) : List D → (Out → Prop) → Prop := fun ds post => ∃ (n : Nat) (ts : List (Int × Int)) (a : Int), ds = [netD c n ts, .int a] ∧ (n ≤ 24 ∧ Bd a) ∧ (isPt n a = true → post (.ret (.lst ((nearL n ts a).map D.int)))) ∧ (isPt n a = false → post (.exc c.pt))
abbrev rPairs (c : At) : List D → (Out → Prop) → Prop := fun ds post => ∃ (n : Nat) (ts : List (Int × Int)), ds = [netD c n ts] ∧ n ≤ 24 ∧ post (.ret (.lst ((pairsL n ts).map dP)))
section
variable {P : Program} {w : World} {K : PySem.W.Frag} {mg : Str → Option Value} {base : Heap} {c : At}
abbrev sNet_tied : Stmt := inClass (top 15) 1
theorem scNet_tied : FnScope ["self", "one", "other"] ["self", "one", "other"] (defScope sNet_tied) := ⟨rfl, rfl, rfl, by decide +kernel, rfl, by decide +kernel, by decide +kernel⟩
theorem ok_tied {f : Addr} {fd : FuncData} (F : Fun K "tied" "Net.tied" sNet_tied f fd) (T : NetK K mg c) (gNeed : FnC P w K mg base (L2N.CX P w) 2 "need_point" (rNeed c)) : FnOk P w K mg base (L2N.CX P w) 3 f fd ["self", "one", "other"] (spD K (rTied c)) := by
  have nd := scNet_tied.nd
  refine fn_okX F scNet_tied (by rintro _ _ ⟨_, _, _, _, rfl, _⟩; rfl) (by decide) ?_
  rintro X _ post ⟨cdv, A, outer, s, H, E, rfl⟩ hr ⟨n, ts, a, b, rfl, ⟨hn, ha, hb⟩, hp, hq⟩
  have hbn : Bd (n : Int) := bd_small (by omega)
  refine sxs_cons (sx_exprX (exr_call (post := fun o => (o = .ret .non ∧ isPt n a = true) ∨ (o = .exc c.pt ∧ isPt n a = false)) gNeed (hr.mono (by decide)) (ea_cons (ex_fld T.cl T.n_many (ex_v 0) l_many) (ea_cons (ex_v 1) ea_nil)) ⟨_, _, rfl, ⟨hbn, ha⟩, fun h => .inl ⟨rfl, h⟩, fun h => .inr ⟨rfl, h⟩⟩) ?_ ?_)
  · rintro d (⟨_, h1⟩ | ⟨e, _⟩)
    · refine sxs_cons (sx_exprX (exr_call (post := fun o => (o = .ret .non ∧ isPt n b = true) ∨ (o = .exc c.pt ∧ isPt n b = false)) gNeed (hr.mono (by decide)) (ea_cons (ex_fld T.cl T.n_many (ex_v 0) l_many) (ea_cons (ex_v 2) ea_nil)) ⟨_, _, rfl, ⟨hbn, hb⟩, fun h => .inl ⟨rfl, h⟩, fun h => .inr ⟨rfl, h⟩⟩) ?_ ?_)
      · rintro d (⟨_, h2⟩ | ⟨e, _⟩)
        · have ha2 := isPt_iff.mp h1
          refine sxs_one (sx_ret (ex_inI (eb_v 2) (eb_ixL (EX.bo (ex_fld T.cl T.n__rows (ex_v 0) l__rows)) (eb_v 1) (rowsN_at ha2))) ?_)
          have e : decide (b ∈ nearL n ts a) = adj ts a b := by
            unfold adj
            rw [decide_eq_decide, near_mem]
            exact ⟨fun z => z.2, fun z => ⟨isPt_iff.mp h2, z⟩⟩
          rw [e]
          exact hp (by rw [h1, h2]; rfl)
        · cases e
      · rintro Cl (⟨e, _⟩ | ⟨e, h2⟩)
        · cases e
        · cases e; exact hq (by rw [h2, Bool.and_false])
    · cases e
  · rintro Cl (⟨e, _⟩ | ⟨e, h1⟩)
    · cases e
    · cases e; exact hq (by rw [h1]; rfl)
abbrev sNet_near : Stmt := inClass (top 15) 2
theorem scNet_near : FnScope ["self", "one"] ["self", "one"] (defScope sNet_near) := ⟨rfl, rfl, rfl, by decide +kernel, rfl, by decide +kernel, by decide +kernel⟩
theorem ok_near {f : Addr} {fd : FuncData} (F : Fun K "near" "Net.near" sNet_near f fd) (T : NetK K mg c) (gNeed : FnC P w K mg base (L2N.CX P w) 2 "need_point" (rNeed c)) : FnOk P w K mg base (L2N.CX P w) 3 f fd ["self", "one"] (spN K (rNear c)) := by
  have nd := scNet_near.nd
  refine fn_okNX F scNet_near (by rintro _ _ ⟨_, _, _, rfl, _⟩; rfl) (by decide) ?_
  rintro X _ post ⟨cdv, A, outer, s, H, E, rfl⟩ hr ⟨n, ts, a, rfl, ⟨hn, ha⟩, hp, hq⟩
  have hbn : Bd (n : Int) := bd_small (by omega)
  have T0 := T.glb
  refine sxo_cons (sx_exprX (exr_call (post := fun o => (o = .ret .non ∧ isPt n a = true) ∨ (o = .exc c.pt ∧ isPt n a = false)) gNeed (hr.mono (by decide)) (ea_cons (ex_fld T.cl T.n_many (ex_v 0) l_many) (ea_cons (ex_v 1) ea_nil)) ⟨_, _, rfl, ⟨hbn, ha⟩, fun h => .inl ⟨rfl, h⟩, fun h => .inr ⟨rfl, h⟩⟩) ?_ ?_)
  · rintro d (⟨_, h1⟩ | ⟨e, _⟩)
    · have ha2 := isPt_iff.mp h1
      refine sxo_ret (eo_list T0.list (ex_ixL (ex_fld T.cl T.n__rows (ex_v 0) l__rows) (eb_v 1) (rowsN_at ha2))) ?_
      exact hp h1
    · cases e
  · rintro Cl (⟨e, _⟩ | ⟨e, h1⟩)
    · cases e
    · cases e; exact hq h1
abbrev sNet_pairs : Stmt := inClass (top 15) 3
theorem scNet_pairs : FnScope ["self", "one", "other"] ["self"] (defScope sNet_pairs) := ⟨rfl, rfl, rfl, by decide +kernel, rfl, by decide +kernel, by decide +kernel⟩
theorem ok_pairs {f : Addr} {fd : FuncData} (F : Fun K "pairs" "Net.pairs" sNet_pairs f fd) (T : NetK K mg c) : FnOk P w K mg base CX0 1 f fd ["self"] (spN K (rPairs c)) := by
  have nd := scNet_pairs.nd
  refine fn_okN F scNet_pairs (by rintro _ _ ⟨_, _, rfl, _⟩; rfl) (by decide) ?_
  rintro X _ post ⟨cdv, A, outer, s, H, E, rfl⟩ hr ⟨n, ts, rfl, hn, hp⟩
  have hnn : ∀ x, (nearL n ts x).length ≤ 24 := fun x => Nat.le_trans (near_len n ts x) hn
  have T0 := T.glb
  refine sxo_ret (eo_of (pe_lc2 (own := [("one", 1), ("other", 2)]) (vs1 := [2]) (g := gName 1) (g1 := gName 2) (tt := tYes) rfl nd (pi_range1 (by rfl) T0.range pa_w) (blkOk_by (N := ["self", "one", "other"]) (sc := defScope sNet_pairs) (by decide +kernel)) (by simp) (fun _ _ _ _ _ => pg_name (i := 1) nd rfl (Or.inl rfl)) (fun _ _ _ _ _ => pts_nil) (fun _ _ _ _ _ => pi_list (pe_u _ _ _ _ _)) (fun _ _ _ _ _ => pg_name (i := 2) nd rfl (Or.inl rfl)) pts_u pe_u)
    (ro_RL rfl (B := 24) (fun x : Nat => (nearL n ts (x : Int)).map D.int) (fun x d => D.tup [.int x, d]) (fun x d => match d with | .int y => decide ((x : Int) < y) | _ => false) (EX.bo (ex_fld T.cl T.n_many (ex_v 0) l_many)) (by omega) (by intro _ _; rfl) (by decide) (fun x _ => by rw [List.length_map]; exact hnn _) (by omega) (fun x hx _ _ _ _ _ => ?_) (fun x hx y d hd => ?_) (fun x hx y d hd hp2 => ?_))) ?_
  · exact (ex_ixL (ex_fld T.cl T.n__rows (ex_v 0) l__rows) (eb_v 1) (rowsN_at (by omega)))
  · rw [List.getElem?_map] at hd
    cases hb : (nearL n ts (x : Int))[y]? with
    | none => rw [hb] at hd; cases hd
    | some b =>
      rw [hb] at hd
      obtain rfl := (Option.some.inj hd).symm
      intro _ _ _ _ _
      exact (tx_lt (eb_v 1) (eb_v 2))
  · rw [List.getElem?_map] at hd
    cases hb : (nearL n ts (x : Int))[y]? with
    | none => rw [hb] at hd; cases hd
    | some b =>
      rw [hb] at hd
      obtain rfl := (Option.some.inj hd).symm
      intro _ _ _ _ _
      exact (ex_tup (ea_cons (ex_v 1) (ea_cons (ex_v 2) ea_nil)))
  · have e : ((List.range ((n : Int)).toNat).flatMap fun x : Nat => (((nearL n ts (x : Int)).map D.int).filter fun d => match d with | .int y => decide ((x : Int) < y) | _ => false).map fun d => D.tup [.int x, d]) = (pairsL n ts).map dP := by
      unfold pairsL
      rw [List.map_flatMap, Int.toNat_natCast]
      refine congrArg (fun f => List.flatMap f (List.range n)) (funext fun x => ?_)
      rw [List.filter_map, List.map_map, List.map_map]
      rfl
    rw [e]
    exact hp
end
end Pn

end
section
set_option maxHeartbeats 2000000
namespace DL
open PySem PySem.Spec L2
theorem lk_has {g : Int × Int → Bool} {k : Int × Int} {keys : List (Int × Int)} : (lk (dk keys g) k).isSome = decide (k ∈ keys) := by
  by_cases h : k ∈ keys
  · rw [lk_dk h, decide_eq_true h]; rfl
  · rw [decide_eq_false h]
    unfold lk dk
    rw [List.find?_eq_none.mpr fun x hx => ?_]
    · rfl
    · obtain ⟨y, hy, rfl⟩ := List.mem_map.mp hx
      simp only [decide_eq_true_eq]
      exact fun e => h (by rw [← e]; exact hy)
theorem both_has {ts : List (Int × Int)} {a b : Int} : (lk (dk (bothK ts) fun _ => true) (a, b)).isSome = adj ts a b := by
  rw [lk_has]
  unfold adj
  rw [decide_eq_decide, bothK_mem, sw]
theorem near_range {n : Nat} {ts : List (Int × Int)} {s : Int} : (((List.range (n : Int).toNat).filter fun j : Nat => (lk (dk (bothK ts) fun _ => true) (s, (j : Int))).isSome).map fun j : Nat => D.int j) = (nearL n ts s).map D.int := by
  unfold nearL pts
  rw [List.filter_map, List.map_map, Int.toNat_natCast]
  have e : ((fun j : Nat => (lk (dk (bothK ts) fun _ => true) (s, (j : Int))).isSome)) = (adj ts s ∘ Int.ofNat) := funext fun j => both_has
  rw [e]
  rfl
/-- the ties with the lesser point first, sorted, are all pairs -/
theorem due_pairs {n : Nat} {ts : List (Int × Int)} (h : Tied n ts) : sortP ((bothK ts).filter fun p => decide (p.1 < p.2)) = pairsL n ts := by
  refine (sortP_eq ?_ ((pairs_up n ts).imp fun h => h.1)).symm
  refine (List.perm_ext_iff_of_nodup ((pairs_up n ts).imp fun h => h.2) ((bothK_nd ts).filter _)).mpr fun x => ?_
  rw [pairs_mem h, List.mem_filter, bothK_mem, decide_eq_true_eq]
  exact ⟨fun z => ⟨z.2, z.1⟩, fun z => ⟨z.2, z.1⟩⟩
end DL

end
section
set_option maxHeartbeats 2000000
namespace DL
open PySem PySem.Spec L2
/-- the pairs of points below m, the lesser first, that g says -/
def upT (m : Nat) (g : Nat → Nat → Bool) : List (Int × Int) := (List.range m).flatMap fun x : Nat => ((List.range x).filter fun y => g y x).map fun y : Nat => ((y : Int), (x : Int))
theorem upT_mem {m : Nat} {g : Nat → Nat → Bool} {p : Int × Int} : p ∈ upT m g ↔ ∃ y x : Nat, p = ((y : Int), (x : Int)) ∧ y < x ∧ x < m ∧ g y x = true := by
  unfold upT
  simp only [List.mem_flatMap, List.mem_map, List.mem_filter, List.mem_range]
  constructor
  · rintro ⟨x, hx, y, ⟨hy, hg⟩, rfl⟩
    exact ⟨y, x, rfl, hy, hx, hg⟩
  · rintro ⟨y, x, rfl, hy, hx, hg⟩
    exact ⟨x, hx, y, ⟨hy, hg⟩, rfl⟩
theorem upT_tied (m : Nat) (g : Nat → Nat → Bool) : Tied m (upT m g) := by
  refine ⟨fun t ht => ?_, ?_⟩
  · obtain ⟨y, x, rfl, hy, hx, _⟩ := upT_mem.mp ht
    simp only
    omega
  · unfold upT
    rw [List.pairwise_flatMap]
    refine ⟨fun x _ => ?_, List.pairwise_lt_range.imp fun {a b} hab s hs t ht => ?_⟩
    · rw [List.pairwise_map]
      refine ((List.pairwise_lt_range (n := x)).filter _).imp_of_mem fun {y z} hy hz h => ⟨fun e => ?_, fun e => ?_⟩
      · have := congrArg Prod.fst e
        simp only at this
        omega
      · have h1 := congrArg Prod.fst e
        have h2 := List.mem_range.mp (List.mem_filter.mp hy).1
        simp only [sw] at h1
        omega
    · obtain ⟨y, hy, rfl⟩ := List.mem_map.mp hs
      obtain ⟨z, hz, rfl⟩ := List.mem_map.mp ht
      refine ⟨fun e => ?_, fun e => ?_⟩
      · have := congrArg Prod.snd e
        simp only at this
        omega
      · have h1 := congrArg Prod.fst e
        have h3 := congrArg Prod.snd e
        have h2 := List.mem_range.mp (List.mem_filter.mp hy).1
        have h4 := List.mem_range.mp (List.mem_filter.mp hz).1
        simp only [sw] at h1 h3
        omega
theorem len_flat {α β : Type} {f : α → List β} {B : Nat} : ∀ {l : List α}, (∀ x ∈ l, (f x).length ≤ B) → (l.flatMap f).length ≤ l.length * B
  | [], _ => Nat.zero_le _
  | a :: r, h => by
    rw [List.flatMap_cons, List.length_append, List.length_cons, Nat.succ_mul]
    have h1 := h a (List.mem_cons_self ..)
    have h2 := len_flat (f := f) (B := B) (l := r) fun x hx => h x (List.mem_cons_of_mem _ hx)
    omega
theorem upT_len (m : Nat) (g : Nat → Nat → Bool) : (upT m g).length ≤ m * m := by
  unfold upT
  have := len_flat (f := fun x : Nat => ((List.range x).filter fun y => g y x).map fun y : Nat => ((y : Int), (x : Int))) (B := m) (l := List.range m) fun x hx => by
    have h1 := List.mem_range.mp hx
    rw [List.length_map]
    have h2 := List.length_filter_le (fun y => g y x) (List.range x)
    rw [List.length_range] at h2
    omega
  rwa [List.length_range] at this
theorem adj_sym {ts : List (Int × Int)} {a b : Int} : adj ts a b = adj ts b a := by
  unfold adj
  rw [decide_eq_decide]
  exact Or.comm
theorem adj_upT {m : Nat} {g : Nat → Nat → Bool} {a b : Nat} (h : a < b) (hb : b < m) : adj (upT m g) (a : Int) (b : Int) = g a b := by
  unfold adj
  cases hg : g a b with
  | true => exact decide_eq_true (.inl (upT_mem.mpr ⟨a, b, rfl, h, hb, hg⟩))
  | false =>
    refine decide_eq_false fun z => ?_
    rcases z with z | z
    · obtain ⟨y, x, e, _, _, h2⟩ := upT_mem.mp z
      have e1 := congrArg Prod.fst e
      have e2 := congrArg Prod.snd e
      simp only at e1 e2
      have e1 : a = y := by omega
      have e2 : b = x := by omega
      subst e1 e2
      rw [hg] at h2
      cases h2
    · obtain ⟨y, x, e, h1, _, _⟩ := upT_mem.mp z
      have e1 := congrArg Prod.fst e
      have e2 := congrArg Prod.snd e
      simp only at e1 e2
      omega
/-- what is not tied -/
def oppT (n : Nat) (ts : List (Int × Int)) : List (Int × Int) := upT n fun y x => !adj ts (y : Int) (x : Int)
/-- the point that was x's behind p's leaving -/
def bak (p : Nat) (x : Nat) : Nat := if x < p then x else x + 1
/-- without the point p -/
def lesT (n : Nat) (ts : List (Int × Int)) (p : Nat) : List (Int × Int) := upT (n - 1) fun y x => adj ts (bak p y : Nat) (bak p x : Nat)
theorem kept_eq (p : Nat) : ∀ n, p < n → (List.range n).filter (fun j : Nat => !decide ((j : Int) = (p : Int))) = (List.range (n - 1)).map (bak p)
  | 0, h => absurd h (Nat.not_lt_zero _)
  | n + 1, h => by
    rw [List.range_succ, List.filter_append]
    by_cases e : p = n
    · subst e
      have e1 : (List.range p).filter (fun j : Nat => !decide ((j : Int) = (p : Int))) = List.range p := List.filter_eq_self.mpr fun j hj => by
        have := List.mem_range.mp hj
        simp
        omega
      rw [e1]
      have e2 : ([p] : List Nat).filter (fun j : Nat => !decide ((j : Int) = (p : Int))) = [] := by simp
      rw [e2, List.append_nil]
      have e3 : (List.range (p + 1 - 1)).map (bak p) = (List.range p).map id := List.map_congr_left fun j hj => by
        have := List.mem_range.mp hj
        unfold bak
        rw [if_pos (by omega)]
        rfl
      rw [e3, List.map_id]
    · have hp : p < n := by omega
      rw [kept_eq p n hp]
      have e2 : ([n] : List Nat).filter (fun j : Nat => !decide ((j : Int) = (p : Int))) = [n] := by
        simp [List.filter_cons]
        omega
      rw [e2]
      have e4 : n + 1 - 1 = (n - 1) + 1 := by omega
      rw [e4, List.range_succ, List.map_append]
      have e5 : bak p (n - 1) = n := by
        unfold bak
        rw [if_neg (by omega)]
        omega
      simp [e5]
end DL

end
section
set_option maxHeartbeats 4000000
namespace Pn
open PySem PySem.Spec L2 DL
abbrev rOpp (c : At) : List D → (Out → Prop) → Prop := fun ds post => ∃ (n : Nat) (ts : List (Int × Int)), ds = [netD c n ts] ∧ n ≤ 24 ∧ post (.ret (netD c n (oppT n ts)))
abbrev rLess (c : At) : List D → (Out → Prop) → Prop := fun ds post => ∃ (n : Nat) (ts : List (Int × Int)) (a : Int), ds = [netD c n ts, .int a] ∧ (n ≤ 24 ∧ Bd a) ∧ (isPt n a = true → post (.ret (netD c (n - 1) (lesT n ts a.toNat)))) ∧ (isPt n a = false → post (.exc c.pt))
theorem scan_upT (m : Nat) (g : Nat → Nat → Bool) : scan m [] (upT m g) = 0 := scan_tied (by rw [List.nil_append]; exact upT_tied m g)
theorem new_upT {m : Nat} {g : Nat → Nat → Bool} {c : At} (hm : m ≤ 24) : rNew c [.int m, .lst ((upT m g).map dP)] (fun o => o = .ret (netD c m (upT m g))) := by
  have hl := upT_len m g
  have h2 := Nat.mul_le_mul hm hm
  refine ⟨m, _, rfl, ⟨bd_small (by omega), by omega, fun t ht => ?_⟩, fun h => (h (by omega)).elim, fun _ => ⟨fun _ => rfl, fun h => (by rw [scan_upT] at h; cases h), fun h => (by rw [scan_upT] at h; cases h)⟩⟩
  obtain ⟨a, b, c, d, _⟩ := (upT_tied m g).1 t ht
  exact ⟨bd_small (by omega), bd_small (by omega)⟩
theorem upT_map {n : Nat} {g : Nat → Nat → Bool} : ((List.range (n : Int).toNat).flatMap fun x : Nat => ((List.range ((x : Int)).toNat).filter fun y : Nat => g y x).map fun y : Nat => D.tup [.int y, .int x]) = (upT n g).map dP := by
  unfold upT
  rw [List.map_flatMap, Int.toNat_natCast]
  refine congrArg (fun f => List.flatMap f (List.range n)) (funext fun x => ?_)
  rw [List.map_map, Int.toNat_natCast]
  rfl
theorem bak_lt {p y n : Nat} (h : y < n - 1) : bak p y < n := by unfold bak; split <;> omega
theorem at_kept {p y m : Nat} (h : y < m) : atI (((List.range m).map (bak p)).map fun j : Nat => D.int j) (y : Int) = some (.int ((bak p y : Nat) : Int)) := atI_nat (by rw [List.getElem?_map, List.getElem?_map, List.getElem?_range h]; rfl)
theorem bd_bak {p y n : Nat} (hn : n ≤ 24) (h : y < n - 1) : Bd ((bak p y : Nat) : Int) := bd_small (by have := bak_lt (p := p) h; omega)
theorem pt_bak {p y n : Nat} (h : y < n - 1) : isPt n ((bak p y : Nat) : Int) = true := isPt_of (by have := bak_lt (p := p) h; omega)
section
variable {P : Program} {w : World} {K : PySem.W.Frag} {mg : Str → Option Value} {base : Heap} {c : At}
abbrev sopposite : Stmt := top 16
theorem scopposite : FnScope ["net", "ties", "other", "one"] ["net"] (defScope sopposite) := ⟨rfl, rfl, rfl, by decide +kernel, rfl, by decide +kernel, by decide +kernel⟩
theorem ok_opposite {f ft fm : Addr} {fd fdt fdm : FuncData} {pst psm : List Str} (F : Fun K "opposite" "opposite" sopposite f fd) (T : LawK K mg c) (mTied : MtC P w K mg base (L2N.CX P w) 3 c.net "tied" ft fdt pst (rTied c)) (mNet : MkC P w K mg base c fm fdm psm) : FnOk P w K mg base CX0 5 f fd ["net"] (spD K (rOpp c)) := by
  have nd := scopposite.nd
  refine fn_okD F scopposite (by rintro _ _ ⟨_, _, rfl, _⟩; rfl) (by decide) ?_
  rintro X _ post ⟨cdv, A, outer, s, H, E, rfl⟩ hr ⟨n, ts, rfl, hn, hp⟩
  refine sxs_cons (sx_setR 1 (ro_RR rfl (B := 24) (fun x => (x : Int)) (fun x y => D.tup [.int y, .int x]) (fun x y => !adj ts (y : Int) (x : Int)) (EX.bo (ex_fld T.cl T.n_many (ex_v 0) l_many)) (by omega) (by intro _ _; rfl) (by decide) (fun x hx => (by omega)) (by intro _ _; rfl) (by omega) (fun x hx _ _ _ _ _ => (eb_v 2)) (fun x hx y hy _ _ _ _ _ => (tx_not (tx_val (EX.bo (ex_methA (pe_meth pe_w T.cl mTied.me mTied.ok (hr.mono (by decide)) mTied.bi .nil passN pa_w) (ex_v 0) rfl (ea_cons (ex_v 3) (ea_cons (ex_v 2) ea_nil)) ⟨n, ts, _, _, rfl, ⟨hn, bd_small (by omega), bd_small (by omega)⟩, fun _ => rfl, fun h => (by rw [isPt_of (x := (y : Int)) (by omega), isPt_of (x := (x : Int)) (by omega)] at h; cases h)⟩))))) (fun x hx y hy hp _ _ _ _ _ => (ex_tup (ea_cons (ex_v 3) (ea_cons (ex_v 2) ea_nil))))) (ps_setLc2 (i := 1) (own := [("other", 2), ("one", 3)]) (vs1 := [3]) (g := gName 2) (g1 := gName 3) (tt := tYes) rfl nd rfl rfl (sw_true rfl rfl rfl (by decide +kernel)) (pi_range1 (by rfl) T.range pa_w) (blkOk_by (N := ["net", "ties", "other", "one"]) (sc := defScope sopposite) (by decide +kernel)) (by simp) (fun _ _ _ _ _ => pg_name (i := 2) nd rfl (Or.inl rfl)) (fun _ _ _ _ _ => pts_nil) (fun _ _ _ _ _ => pi_range1 (by rfl) T.range (pa_u _ _ _ _ _)) (fun _ _ _ _ _ => pg_name (i := 3) nd rfl (Or.inl rfl)) pts_u pe_u) ?_)
  have e := upT_map (n := n) (g := fun y x => !adj ts (y : Int) (x : Int))
  rw [e]
  refine sxs_one (sx_ret (ex_make (R := rNew c) (pe_make mNet.made mNet.ok (hr.mono (by decide)) rfl mNet.g mNet.bi .nil passN pa_w) (eab_cons (EX.bo (ex_fld T.cl T.n_many (ex_v 0) l_many)) (eab_cons (eb_v 1) eab_nil)) (new_upT hn)) ?_)
  exact hp
abbrev slessened : Stmt := top 17
theorem sclessened : FnScope ["net", "point", "kept", "ties", "old", "other", "one"] ["net", "point"] (defScope slessened) := ⟨rfl, rfl, rfl, by decide +kernel, rfl, by decide +kernel, by decide +kernel⟩
theorem ok_lessened {f ft fm : Addr} {fd fdt fdm : FuncData} {pst psm : List Str} (F : Fun K "lessened" "lessened" slessened f fd) (T : LawK K mg c) (gNeed : FnC P w K mg base (L2N.CX P w) 2 "need_point" (rNeed c)) (mTied : MtC P w K mg base (L2N.CX P w) 3 c.net "tied" ft fdt pst (rTied c)) (mNet : MkC P w K mg base c fm fdm psm) : FnOk P w K mg base (L2N.CX P w) 5 f fd ["net", "point"] (spD K (rLess c)) := by
  have nd := sclessened.nd
  refine fn_okX F sclessened (by rintro _ _ ⟨_, _, _, rfl, _⟩; rfl) (by decide) ?_
  rintro X _ post ⟨cdv, A, outer, s, H, E, rfl⟩ hr ⟨n, ts, a, rfl, ⟨hn, ha⟩, hp, hq⟩
  have hbn : Bd (n : Int) := bd_small (by omega)
  refine sxs_cons (sx_exprX (exr_call (post := fun o => (o = .ret .non ∧ isPt n a = true) ∨ (o = .exc c.pt ∧ isPt n a = false)) gNeed (hr.mono (by decide)) (ea_cons (ex_fld T.cl T.n_many (ex_v 0) l_many) (ea_cons (ex_v 1) ea_nil)) ⟨_, _, rfl, ⟨hbn, ha⟩, fun h => .inl ⟨rfl, h⟩, fun h => .inr ⟨rfl, h⟩⟩) ?_ ?_)
  · rintro d (⟨_, h1⟩ | ⟨e, _⟩)
    · have hp := hp h1
      obtain ⟨h0, h2⟩ := isPt_iff.mp h1
      obtain ⟨p, rfl⟩ := Int.eq_ofNat_of_zero_le h0
      rw [Int.toNat_natCast] at hp
      have hpn : p < n := by omega
      refine sxs_cons (sx_set 2 nd (EX.to (d' := .lst (((List.range (n - 1)).map (bak p)).map fun j : Nat => D.int j)) (EO.x (eo_of (pe_lc (own := [("old", 4)]) (g := gName 4) rfl nd (pi_range1 (by rfl) T.range pa_w) (blkOk_by (N := ["net", "point", "kept", "ties", "old", "other", "one"]) (sc := defScope slessened) (by decide +kernel)) (fun _ _ _ _ _ => pg_name (i := 4) nd rfl (by first | exact Or.inl rfl | exact Or.inr rfl)) (pts_u) pe_u) (ro_Rif rfl (fun j => D.int j) (fun j => !decide ((j : Int) = (p : Int))) (EX.bo (ex_fld T.cl T.n_many (ex_v 0) l_many)) (by omega) (by intro _ _; rfl) (fun j hj _ _ _ _ _ => (tx_neI (eb_v 4) (eb_v 1))) (fun j hj hp _ _ _ _ _ => (ex_v 4))))) (by rw [Int.toNat_natCast, kept_eq p n hpn])) ?_)
      refine sxs_cons (sx_setR 3 (ro_RR rfl (B := 24) (fun x => (x : Int)) (fun x y => D.tup [.int y, .int x]) (fun x y => adj ts (bak p y : Nat) (bak p x : Nat)) (EX.bo (ex_lenL T.len (eb_v 2))) (by rw [List.length_map, List.length_map, List.length_range]; omega) (by intro _ _; rfl) (by decide) (fun x hx => (by rw [List.length_map, List.length_map, List.length_range] at hx; omega)) (by intro _ _; rfl) (by rw [List.length_map, List.length_map, List.length_range]; omega) (fun x hx _ _ _ _ _ => (eb_v 5)) (fun x hx y hy _ _ _ _ _ => (tx_val (EX.bo (ex_methA (pe_meth pe_w T.cl mTied.me mTied.ok (hr.mono (by decide)) mTied.bi .nil passN pa_w) (ex_v 0) rfl (ea_cons (ex_ixL (ex_v 2) (eb_v 6) (at_kept (by rw [List.length_map, List.length_map, List.length_range] at hx; omega))) (ea_cons (ex_ixL (ex_v 2) (eb_v 5) (at_kept (by rw [List.length_map, List.length_map, List.length_range] at hx; omega))) ea_nil)) ⟨n, ts, _, _, rfl, ⟨hn, bd_bak hn (by rw [List.length_map, List.length_map, List.length_range] at hx; omega), bd_bak hn (by rw [List.length_map, List.length_map, List.length_range] at hx; omega)⟩, fun _ => rfl, fun h => (by rw [List.length_map, List.length_map, List.length_range] at hx; rw [pt_bak (by omega), pt_bak (by omega)] at h; cases h)⟩)))) (fun x hx y hy hp _ _ _ _ _ => (ex_tup (ea_cons (ex_v 6) (ea_cons (ex_v 5) ea_nil))))) (ps_setLc2 (i := 3) (own := [("other", 5), ("one", 6)]) (vs1 := [6]) (g := gName 5) (g1 := gName 6) (tt := tYes) rfl nd rfl rfl (sw_true rfl rfl rfl (by decide +kernel)) (pi_range1 (by rfl) T.range pa_w) (blkOk_by (N := ["net", "point", "kept", "ties", "old", "other", "one"]) (sc := defScope slessened) (by decide +kernel)) (by simp) (fun _ _ _ _ _ => pg_name (i := 5) nd rfl (Or.inl rfl)) (fun _ _ _ _ _ => pts_nil) (fun _ _ _ _ _ => pi_range1 (by rfl) T.range (pa_u _ _ _ _ _)) (fun _ _ _ _ _ => pg_name (i := 6) nd rfl (Or.inl rfl)) pts_u pe_u) ?_)
      have e := upT_map (n := n - 1) (g := fun y x => adj ts (bak p y : Nat) (bak p x : Nat))
      rw [List.length_map, List.length_map, List.length_range, e]
      refine sxs_one (sx_ret (ex_make (R := rNew c) (pe_make mNet.made mNet.ok (hr.mono (by decide)) rfl mNet.g mNet.bi .nil passN pa_w) (eab_cons (EX.bo (EX.to (d' := .int ((n - 1 : Nat) : Int)) (ex_lenL T.len (eb_v 2)) (by rw [List.length_map, List.length_map, List.length_range]))) (eab_cons (eb_v 3) eab_nil)) (new_upT (by omega))) ?_)
      exact hp
    · cases e
  · rintro Cl (⟨e, _⟩ | ⟨e, h1⟩)
    · cases e
    · cases e; exact hq h1
end
end Pn

end
section
set_option maxHeartbeats 2000000
namespace DL
open PySem PySem.Spec L2
theorem RepA.rep {K : PySem.W.Frag} {H : Hp} {vs : List V} {ds : List D} (r : RepA K H vs ds) : ∀ n : Nat, RepA K H (List.replicate n vs).flatten (List.replicate n ds).flatten
  | 0 => .nil
  | n + 1 => by
    rw [List.replicate_succ, List.replicate_succ, List.flatten_cons, List.flatten_cons]
    exact r.append (r.rep n)
theorem eqv_bools : ∀ (bs cs : List Bool), PyData.eqvAll (bs.map PyData.bool) (cs.map PyData.bool) = decide (bs = cs)
  | [], [] => by unfold PyData.eqvAll; simp
  | [], c :: cs => by unfold PyData.eqvAll; simp
  | b :: bs, [] => by unfold PyData.eqvAll; simp
  | b :: bs, c :: cs => by
    rw [List.map_cons, List.map_cons]
    unfold PyData.eqvAll
    rw [eqv_bools bs cs]
    have e : PyData.eqv (.bool b) (.bool c) = (b == c) := by cases b <;> cases c <;> rfl
    rw [e]
    by_cases h : b = c <;> by_cases h2 : bs = cs <;> simp [h, h2]
theorem shaped_bools (bs : List Bool) : SeqAt.shaped (.list (bs.map PyData.bool)) = true := by
  have h1 : PyData.canLayAll0 (bs.map PyData.bool) = true := by
    induction bs with
    | nil => rfl
    | cons b r ih => rw [List.map_cons]; unfold PyData.canLayAll0; rw [ih]; rfl
  have h2 : PyData.depthAll (bs.map PyData.bool) = 0 := by
    clear h1
    induction bs with
    | nil => rfl
    | cons b r ih => rw [List.map_cons]; unfold PyData.depthAll; rw [ih]; rfl
  unfold SeqAt.shaped PyData.canLay0 PyData.depth
  rw [h1, h2]
  rfl
section
variable {X : Cx} {cs : List C} {a b c e o : Expr} {es : List Expr} {pos p apos : Pos} {d da db : D} {ds : List D} {i j : Int} {k n : Nat}
theorem neBL_of {K : PySem.W.Frag} {bs cs : List Bool} : ∀ x y H (Q : VK), Rep K H x (.lst (bs.map D.bl)) → Rep K H y (.lst (cs.map D.bl)) → Q (.bl (!decide (bs = cs))) H → rNeD K x y H Q := fun x y H Q rx ry q => by
  cases rx with
  | lst h1 r1 =>
    cases ry with
    | lst h2 r2 =>
      have e1 := repB_of r1
      have e2 := repB_of r2
      subst e1 e2
      refine ⟨_, _, .lst (SqL.of h1) (dpB bs), .lst (SqL.of h2) (dpB cs), shaped_bools bs, shaped_bools cs, ?_⟩
      unfold PyData.eqv
      rw [eqv_bools]
      exact q
theorem tx_neBL {bs ds : List Bool} (hr : Room k X.A) (ha : EB X cs a (.lst (bs.map D.bl))) (hb : EB X cs b (.lst (ds.map D.bl))) : TX X cs (.Compare a [.NotEq] [b] pos) (!decide (bs = ds)) := tx_cmp (op_neD hr.units) ha hb (nomark _) neBL_of
theorem eo_rep (ha : EX X cs a (.lst ds)) (hb : EB X cs b (.int j)) (hj : -1000000 ≤ j ∧ j ≤ 1000000) (hl : ds.length * j.toNat ≤ 1000000) : EO X cs (.BinOp a .Mult b pos) (List.replicate j.toNat ds).flatten := fun He Hb H0 H σ Q s q =>
  wE_of (pe_op op_rep pe_w pe_w) (ha _ _ _ _ _ _ s fun x H1 H01 g1 r1 => hb _ _ _ _ _ _ (s.grow g1) fun y H2 H02 g2 r2 => by
    cases r1 with
    | lst h1 r1 =>
      cases r2
      refine ⟨_, _, _, rfl, rfl, g2.h _ _ (g1.i _ _ h1), by omega, by omega, ?_, fun l hn => ?_⟩
      · rw [r1.len]; exact Nat.le_trans hl (by decide)
      · have g := g1.trans g2
        exact q l _ _ _ (g.trans (Grow.own g.i hn)) (g.h.free hn) (g.i.free hn) upd_same ((r1.mono g2.b).rep _))
theorem ninT_of {K : PySem.W.Frag} {ns : List Int} : ∀ x y H (Q : VK), Rep K H x (.int i) → Rep K H y (.tup (ns.map D.int)) → Q (.bl (!decide (i ∈ ns))) H → rIn K true x y H Q := fun x y H Q rx ry q => by
  cases rx
  cases ry with
  | tup hl r =>
    have e := r.ints_of
    subst e
    exact ⟨_, _, rfl, .inr (SqT.of hl), rfl, flat_ints, by rw [inV_ints]; exact q⟩
theorem tx_ninT {ns : List Int} (ha : EB X cs a (.int i)) (hb : EB X cs b (.tup (ns.map D.int))) (hm : behindInMarks .NotIn b = false := by rfl) : TX X cs (.Compare a [.NotIn] [b] pos) (!decide (i ∈ ns)) := tx_cmp op_notIn_seq ha hb hm ninT_of
theorem sxo_frL {sts : List Stmt} {F : DE} {post : List D → Prop} (i : Nat) (hc : cs[i]? = some (.ol ds)) (h : SXo X (cs.set i (.sh (.lst ds))) sts F post) : SXo X cs sts F post := fun He Hb H0 H σ E s k r => by
  obtain ⟨H0', e, s'⟩ := s.freezeL hc
  exact h _ _ _ _ _ _ s' (k.mono e) r
end
end DL

end
section
set_option maxHeartbeats 2000000
namespace DL
open PySem PySem.Spec L2
theorem adj_pairs {n : Nat} {ts : List (Int × Int)} (h : Tied n ts) (a b : Int) : adj (pairsL n ts) a b = adj ts a b := by
  unfold adj
  rw [decide_eq_decide, pairs_mem h, pairs_mem h]
  simp only [sw]
  constructor
  · rintro (⟨_, z⟩ | ⟨_, z⟩)
    · exact z
    · exact z.symm
  · intro z
    have hne : a ≠ b := by
      rcases z with z | z
      · exact (h.1 _ z).2.2.2.2
      · exact (h.1 _ z).2.2.2.2.symm
    rcases (by omega : a < b ∨ b < a) with l | l
    · exact .inl ⟨l, z⟩
    · exact .inr ⟨l, z.symm⟩
theorem near_pairs {n : Nat} {ts : List (Int × Int)} (h : Tied n ts) (v : Int) : nearL n (pairsL n ts) v = nearL n ts v := by
  unfold nearL
  rw [show adj (pairsL n ts) v = adj ts v from funext fun b => adj_pairs h v b]
theorem flat_congr {α β : Type} {f g : α → List β} : ∀ {l : List α}, (∀ x ∈ l, f x = g x) → l.flatMap f = l.flatMap g
  | [], _ => rfl
  | a :: r, h => by rw [List.flatMap_cons, List.flatMap_cons, h a (List.mem_cons_self ..), flat_congr fun x hx => h x (List.mem_cons_of_mem _ hx)]
/-- the points behind a -/
theorem pts_behind {n a : Nat} (g : Int → Bool) : ((pts n).filter g).filter (fun b => decide ((a : Int) < b)) = ((List.range (n - (a + 1))).filter fun t : Nat => g (((a + 1 : Nat) : Int) + (t : Int))).map fun t : Nat => ((a + 1 : Nat) : Int) + (t : Int) := by
  have e0 : (pts n).filter (fun b => decide ((a : Int) < b)) = (List.range (n - (a + 1))).map fun t : Nat => ((a + 1 : Nat) : Int) + (t : Int) := by
    unfold pts
    rw [List.filter_map]
    induction n with
    | zero => simp
    | succ n ih =>
      rw [List.range_succ, List.filter_append, List.map_append, ih]
      by_cases h : a < n
      · have e1 : n + 1 - (a + 1) = (n - (a + 1)) + 1 := by omega
        rw [e1, List.range_succ, List.map_append]
        congr 1
        have h2 : ((fun b => decide ((a : Int) < b)) ∘ Int.ofNat) n = true := by simp; omega
        rw [List.filter_cons_of_pos h2]
        simp
        omega
      · have e1 : n + 1 - (a + 1) = 0 := by omega
        have e2 : n - (a + 1) = 0 := by omega
        rw [e1, e2]
        have h2 : ¬ ((fun b => decide ((a : Int) < b)) ∘ Int.ofNat) n = true := by simp; omega
        rw [List.filter_cons_of_neg h2]
        simp
  rw [List.filter_filter, show (fun b => decide ((a : Int) < b) && g b) = fun b => g b && decide ((a : Int) < b) from funext fun b => Bool.and_comm .., ← List.filter_filter, e0, List.filter_map]
  rfl
/-- the pairs of a row, from its second point on -/
def rowP (ts : List (Int × Int)) (a : Nat) (i : Nat) : List (Int × Int) := ((List.range i).filter fun t : Nat => adj ts (a : Int) (((a + 1 : Nat) : Int) + (t : Int))).map fun t : Nat => ((a : Int), ((a + 1 : Nat) : Int) + (t : Int))
theorem pairs_rows {n : Nat} {ts : List (Int × Int)} : pairsL n ts = (List.range n).flatMap fun a => rowP ts a (n - (a + 1)) := by
  unfold pairsL nearL rowP
  refine flat_congr fun a _ => ?_
  rw [pts_behind (n := n) (a := a) (adj ts (a : Int)), List.map_map]
  rfl
/-- what is not tied, row by row -/
def rowO (ts : List (Int × Int)) (a : Nat) (i : Nat) : List (Int × Int) := ((List.range i).filter fun t : Nat => !adj ts (a : Int) (((a + 1 : Nat) : Int) + (t : Int))).map fun t : Nat => ((a : Int), ((a + 1 : Nat) : Int) + (t : Int))
theorem opp_rows {n : Nat} {ts : List (Int × Int)} : pairsL n (oppT n ts) = (List.range n).flatMap fun a => rowO ts a (n - (a + 1)) := by
  rw [pairs_rows]
  refine flat_congr fun a ha => ?_
  have ha := List.mem_range.mp ha
  unfold rowP rowO
  have e : (List.range (n - (a + 1))).filter (fun t : Nat => adj (oppT n ts) (a : Int) (((a + 1 : Nat) : Int) + (t : Int))) = (List.range (n - (a + 1))).filter (fun t : Nat => !adj ts (a : Int) (((a + 1 : Nat) : Int) + (t : Int))) := List.filter_congr fun t ht => by
    have ht := List.mem_range.mp ht
    have e1 : (((a + 1 : Nat) : Int) + (t : Int)) = ((a + 1 + t : Nat) : Int) := by omega
    rw [e1]
    unfold oppT
    rw [adj_upT (by omega) (by omega)]
  rw [e]
theorem rowO_snoc {ts : List (Int × Int)} {a i : Nat} : rowO ts a (i + 1) = rowO ts a i ++ (if adj ts (a : Int) (((a + 1 : Nat) : Int) + (i : Int)) = true then [] else [((a : Int), ((a + 1 : Nat) : Int) + (i : Int))]) := by
  unfold rowO
  rw [List.range_succ, List.filter_append, List.map_append]
  congr 1
  cases h : adj ts (a : Int) (((a + 1 : Nat) : Int) + (i : Int)) with
  | true =>
    rw [if_pos rfl, List.filter_cons_of_neg (by show ¬ (!adj ts (a : Int) (((a + 1 : Nat) : Int) + (i : Int))) = true; rw [h]; decide)]
    rfl
  | false =>
    rw [if_neg (by decide), List.filter_cons_of_pos (by show (!adj ts (a : Int) (((a + 1 : Nat) : Int) + (i : Int))) = true; rw [h]; rfl)]
    rfl
theorem rowO_len {ts : List (Int × Int)} {a i : Nat} : (rowO ts a i).length ≤ i := by
  unfold rowO
  rw [List.length_map]
  have := List.length_filter_le (fun t : Nat => !adj ts (a : Int) (((a + 1 : Nat) : Int) + (t : Int))) (List.range i)
  rwa [List.length_range] at this
/-- a number behind the leaving of g -/
def lessI (x g : Int) : Int := x - (if g < x then 1 else 0)
theorem less_bak {p x : Nat} : lessI ((bak p x : Nat) : Int) p = x := by
  unfold lessI bak
  split <;> split <;> omega
theorem bak_less {p : Nat} {x : Int} (h : 0 ≤ x) (hne : x ≠ p) : ((bak p (lessI x p).toNat : Nat) : Int) = x ∧ 0 ≤ lessI x p := by
  unfold lessI bak
  split <;> split <;> omega
/-- the pairs that are left, as the law goes over them -/
def dueL (ts : List (Int × Int)) (p : Int) (l : List (Int × Int)) : List (Int × Int) := (l.filter fun q => decide (q.1 < q.2) && !decide (p ∈ [q.1, q.2])).map fun q => (lessI q.1 p, lessI q.2 p)
theorem due_less {n : Nat} {ts : List (Int × Int)} (h : Tied n ts) {p : Nat} (hp : p < n) : dueL ts p (sortP (bothK ts)) = pairsL (n - 1) (lesT n ts p) := by
  have hT : Tied (n - 1 : Nat) (lesT n ts p) := upT_tied _ _
  have mem : ∀ q, q ∈ dueL ts p (sortP (bothK ts)) ↔ q ∈ pairsL (n - 1) (lesT n ts p) := fun q => by
    unfold dueL
    rw [pairs_mem hT]
    simp only [List.mem_map, List.mem_filter, (sortP_perm _).mem_iff, bothK_mem, Bool.and_eq_true, decide_eq_true_eq, Bool.not_eq_true', decide_eq_false_iff_not, List.mem_cons, List.not_mem_nil, or_false, not_or]
    constructor
    · rintro ⟨r, ⟨hr, hlt, hn1, hn2⟩, rfl⟩
      have hb : 0 ≤ r.1 ∧ r.1 < n ∧ 0 ≤ r.2 ∧ r.2 < n := by
        rcases hr with z | z
        · have := h.1 _ z; omega
        · have := h.1 _ z; simp only [sw] at this; omega
      have b1 := bak_less (p := p) hb.1 (Ne.symm hn1)
      have b2 := bak_less (p := p) hb.2.2.1 (Ne.symm hn2)
      have hlt2 : lessI r.1 p < lessI r.2 p := by unfold lessI; split <;> split <;> omega
      refine ⟨hlt2, .inl ?_⟩
      unfold lesT
      refine upT_mem.mpr ⟨(lessI r.1 p).toNat, (lessI r.2 p).toNat, ?_, by omega, ?_, ?_⟩
      · simp only [Prod.mk.injEq]; omega
      · have : lessI r.2 p < (n : Int) - 1 := by unfold lessI; split <;> omega
        omega
      · rw [b1.1, b2.1]
        unfold adj
        exact decide_eq_true hr
    · rintro ⟨hlt, hq⟩
      have hq : q ∈ lesT n ts p := by
        rcases hq with z | z
        · exact z
        · obtain ⟨y, x, e, h1, _, _⟩ := upT_mem.mp z
          have e1 := congrArg Prod.fst e
          have e2 := congrArg Prod.snd e
          simp only [sw] at e1 e2
          omega
      obtain ⟨y, x, rfl, h1, h2, h3⟩ := upT_mem.mp hq
      refine ⟨(((bak p y : Nat) : Int), ((bak p x : Nat) : Int)), ⟨?_, ?_, ?_, ?_⟩, ?_⟩
      · unfold adj at h3
        exact of_decide_eq_true h3
      · simp only
        unfold bak
        split <;> split <;> omega
      · simp only
        unfold bak
        split <;> omega
      · simp only
        unfold bak
        split <;> omega
      · simp only [less_bak]
  have up : (dueL ts p (sortP (bothK ts))).Pairwise fun a b => leP a b = true ∧ a ≠ b := by
    unfold dueL
    rw [List.pairwise_map]
    have s : (sortP (bothK ts)).Pairwise fun a b => leP a b = true ∧ a ≠ b := by
      have h1 := sortP_up (bothK ts)
      have h2 : (sortP (bothK ts)).Nodup := (sortP_perm _).nodup_iff.mpr (bothK_nd ts)
      exact h1.and h2
    refine (s.filter _).imp_of_mem fun {a b} ha hb h => ?_
    have fa := (List.mem_filter.mp ha).2
    have fb := (List.mem_filter.mp hb).2
    simp only [Bool.and_eq_true, decide_eq_true_eq, Bool.not_eq_true', decide_eq_false_iff_not, List.mem_cons, List.not_mem_nil, or_false, not_or] at fa fb
    have hle := leP_iff.mp h.1
    have hne := h.2
    have hne2 : a.1 ≠ b.1 ∨ a.2 ≠ b.2 := by
      by_cases z : a.1 = b.1
      · exact .inr fun z2 => hne (Prod.ext z z2)
      · exact .inl z
    refine ⟨leP_iff.mpr ?_, fun e => ?_⟩
    · unfold lessI
      simp only
      split <;> split <;> split <;> split <;> omega
    · have e1 := congrArg Prod.fst e
      have e2 := congrArg Prod.snd e
      unfold lessI at e1 e2
      simp only at e1 e2
      revert e1 e2
      split <;> split <;> split <;> split <;> omega
  have nd1 : (dueL ts p (sortP (bothK ts))).Nodup := up.imp fun h => h.2
  have nd2 : (pairsL (n - 1) (lesT n ts p)).Nodup := (pairs_up _ _).imp fun h => h.2
  have pm : (dueL ts p (sortP (bothK ts))).Perm (pairsL (n - 1) (lesT n ts p)) := (List.perm_ext_iff_of_nodup nd1 nd2).mpr mem
  rw [sortP_eq pm (up.imp fun h => h.1), ← sortP_eq (List.Perm.refl _) ((pairs_up _ _).imp fun h => h.1)]
theorem dueL_snoc {ts : List (Int × Int)} {p : Int} {l : List (Int × Int)} {q : Int × Int} : dueL ts p (l ++ [q]) = dueL ts p l ++ (if (decide (q.1 < q.2) && !decide (p ∈ [q.1, q.2])) = true then [(lessI q.1 p, lessI q.2 p)] else []) := by
  unfold dueL
  rw [List.filter_append, List.map_append]
  congr 1
  rw [List.filter_cons]
  split <;> simp
theorem dueL_len {ts : List (Int × Int)} {p : Int} {l : List (Int × Int)} : (dueL ts p l).length ≤ l.length := by
  unfold dueL
  rw [List.length_map]
  exact List.length_filter_le _ _
def ltD : D → Bool
  | .tup [.int x, .int y] => decide (x < y)
  | _ => false
theorem keys_at {keys : List (Int × Int)} {g : Int × Int → Bool} {j : Nat} {d : D} (h : ((dk keys g).map fun p : (Int × Int) × D => D.tup [.int p.1.1, .int p.1.2])[j]? = some d) : ∃ k, d = dP k := by
  unfold dk at h
  rw [List.map_map, List.getElem?_map] at h
  cases e : keys[j]? with
  | none => rw [e] at h; cases h
  | some k => rw [e] at h; exact ⟨k, (Option.some.inj h).symm⟩
theorem keys_lt {keys : List (Int × Int)} {g : Int × Int → Bool} : ((((dk keys g).map fun p : (Int × Int) × D => D.tup [.int p.1.1, .int p.1.2]).filter ltD).map fun d => d) = (keys.filter fun p => decide (p.1 < p.2)).map dP := by
  unfold dk
  rw [List.map_map, List.filter_map, List.map_map]
  rfl
theorem keys_all {keys : List (Int × Int)} {g : Int × Int → Bool} : ((dk keys g).map fun p : (Int × Int) × D => D.tup [.int p.1.1, .int p.1.2]) = keys.map dP := by
  unfold dk
  rw [List.map_map]
  rfl
theorem map_at {ps : List (Int × Int)} {j : Nat} {d : D} (h : (ps.map dP)[j]? = some d) : ∃ q, ps[j]? = some q ∧ d = dP q := by
  rw [List.getElem?_map] at h
  cases e : ps[j]? with
  | none => rw [e] at h; cases h
  | some k => rw [e] at h; exact ⟨k, rfl, (Option.some.inj h).symm⟩
def sgn (z : Int) : Int := if z % 2 = 0 then 1 else -1
theorem at_sgn (z : Int) : atI [D.int 1, D.int (-1)] (z % 2) = some (.int (sgn z)) := by
  unfold sgn
  rcases (by omega : z % 2 = 0 ∨ z % 2 = 1) with h | h <;> rw [h] <;> rfl
theorem sgn_cases (z : Int) : sgn z = 1 ∨ sgn z = -1 := by unfold sgn; split <;> simp
end DL

end
section
set_option maxHeartbeats 2000000
namespace DL
open PySem PySem.Spec L2
/-- what an arrow forces at once, ahead of the sorting -/
def awayL (n : Nat) (ts : List (Int × Int)) (a b : Int) : List (Int × Int) := ((nearL n ts a).filter fun x => !decide (x = b) && !adj ts b x).map fun x => (a, x)
def towardL (n : Nat) (ts : List (Int × Int)) (a b : Int) : List (Int × Int) := ((nearL n ts b).filter fun x => !decide (x = a) && !adj ts a x).map fun x => (x, b)
def onceL (n : Nat) (ts : List (Int × Int)) (a b : Int) : List (Int × Int) := sortP (awayL n ts a b ++ towardL n ts a b)
theorem away_len {n : Nat} {ts : List (Int × Int)} {a b : Int} : (awayL n ts a b).length ≤ n := by
  unfold awayL
  rw [List.length_map]
  exact Nat.le_trans (List.length_filter_le _ _) (near_len n ts a)
theorem toward_len {n : Nat} {ts : List (Int × Int)} {a b : Int} : (towardL n ts a b).length ≤ n := by
  unfold towardL
  rw [List.length_map]
  exact Nat.le_trans (List.length_filter_le _ _) (near_len n ts b)
theorem once_len {n : Nat} {ts : List (Int × Int)} {a b : Int} : (onceL n ts a b).length ≤ 2 * n := by
  have h1 := away_len (n := n) (ts := ts) (a := a) (b := b)
  have h2 := toward_len (n := n) (ts := ts) (a := a) (b := b)
  unfold onceL
  rw [(sortP_perm _).length_eq, List.length_append]
  omega
theorem away_mem {n : Nat} {ts : List (Int × Int)} {a b : Int} {p : Int × Int} : p ∈ awayL n ts a b ↔ p.1 = a ∧ (0 ≤ p.2 ∧ p.2 < n) ∧ adj ts a p.2 = true ∧ p.2 ≠ b ∧ adj ts b p.2 = false := by
  unfold awayL
  rw [List.mem_map]
  constructor
  · rintro ⟨x, hx, rfl⟩
    rw [List.mem_filter] at hx
    unfold nearL at hx
    rw [List.mem_filter, pts_mem] at hx
    simp only [Bool.and_eq_true, Bool.not_eq_true', decide_eq_false_iff_not] at hx
    exact ⟨rfl, hx.1.1, hx.1.2, hx.2.1, hx.2.2⟩
  · rintro ⟨h1, h2, h3, h4, h5⟩
    refine ⟨p.2, ?_, by rw [← h1]⟩
    rw [List.mem_filter]
    unfold nearL
    rw [List.mem_filter, pts_mem]
    simp only [Bool.and_eq_true, Bool.not_eq_true', decide_eq_false_iff_not]
    exact ⟨⟨h2, h3⟩, h4, h5⟩
theorem toward_mem {n : Nat} {ts : List (Int × Int)} {a b : Int} {p : Int × Int} : p ∈ towardL n ts a b ↔ p.2 = b ∧ (0 ≤ p.1 ∧ p.1 < n) ∧ adj ts b p.1 = true ∧ p.1 ≠ a ∧ adj ts a p.1 = false := by
  unfold towardL
  rw [List.mem_map]
  constructor
  · rintro ⟨x, hx, rfl⟩
    rw [List.mem_filter] at hx
    unfold nearL at hx
    rw [List.mem_filter, pts_mem] at hx
    simp only [Bool.and_eq_true, Bool.not_eq_true', decide_eq_false_iff_not] at hx
    exact ⟨rfl, hx.1.1, hx.1.2, hx.2.1, hx.2.2⟩
  · rintro ⟨h1, h2, h3, h4, h5⟩
    refine ⟨p.1, ?_, by rw [← h1]⟩
    rw [List.mem_filter]
    unfold nearL
    rw [List.mem_filter, pts_mem]
    simp only [Bool.and_eq_true, Bool.not_eq_true', decide_eq_false_iff_not]
    exact ⟨⟨h2, h3⟩, h4, h5⟩
/-- the law's own list of it, point by point -/
def forA (ts : List (Int × Int)) (a b x : Int) : List (Int × Int) := if (!decide (x = b) && (adj ts a x && !adj ts b x)) = true then [(a, x)] else []
def forB (ts : List (Int × Int)) (a b x : Int) : List (Int × Int) := if (!decide (x = a) && (adj ts x b && !adj ts x a)) = true then [(x, b)] else []
def forU (ts : List (Int × Int)) (a b : Int) (l : List Nat) : List (Int × Int) := l.flatMap fun x : Nat => forA ts a b (x : Int) ++ forB ts a b (x : Int)
theorem flat_two {α β : Type} (f g : α → List β) : ∀ l : List α, (l.flatMap fun x => f x ++ g x).Perm (l.flatMap f ++ l.flatMap g)
  | [] => .refl _
  | x :: l => by
    rw [List.flatMap_cons, List.flatMap_cons, List.flatMap_cons]
    have h1 := (flat_two f g l).append_left (f x ++ g x)
    refine h1.trans ?_
    rw [List.append_assoc, List.append_assoc]
    refine List.Perm.append_left _ ?_
    rw [← List.append_assoc, ← List.append_assoc]
    exact List.Perm.append_right _ List.perm_append_comm
theorem flat_if {α β : Type} {p : α → Bool} {f : α → β} : ∀ l : List α, (l.flatMap fun x => if p x = true then [f x] else []) = (l.filter p).map f
  | [] => rfl
  | x :: l => by
    rw [List.flatMap_cons, flat_if l, List.filter_cons]
    cases p x <;> rfl
theorem forU_len {ts : List (Int × Int)} {a b : Int} {l : List Nat} : (forU ts a b l).length ≤ l.length * 2 := by
  refine len_flat fun x _ => ?_
  rw [List.length_append]
  have h1 : (forA ts a b (x : Int)).length ≤ 1 := by unfold forA; split <;> simp
  have h2 : (forB ts a b (x : Int)).length ≤ 1 := by unfold forB; split <;> simp
  omega
theorem forU_perm {n : Nat} {ts : List (Int × Int)} {a b : Int} : (forU ts a b (List.range n)).Perm (awayL n ts a b ++ towardL n ts a b) := by
  refine (flat_two _ _ _).trans ?_
  have e1 : ((List.range n).flatMap fun x : Nat => forA ts a b (x : Int)) = awayL n ts a b := by
    unfold awayL nearL pts forA
    rw [flat_if (p := fun x : Nat => !decide ((x : Int) = b) && (adj ts a (x : Int) && !adj ts b (x : Int))) (f := fun x : Nat => (a, (x : Int)))]
    rw [List.filter_map, List.filter_map, List.map_map, List.filter_filter]
    refine congrArg (List.map _) (List.filter_congr fun x _ => ?_)
    show _ = ((!decide ((x : Int) = b) && !adj ts b (x : Int)) && adj ts a (x : Int))
    cases decide ((x : Int) = b) <;> cases adj ts a (x : Int) <;> cases adj ts b (x : Int) <;> rfl
  have e2 : ((List.range n).flatMap fun x : Nat => forB ts a b (x : Int)) = towardL n ts a b := by
    unfold towardL nearL pts forB
    rw [flat_if (p := fun x : Nat => !decide ((x : Int) = a) && (adj ts (x : Int) b && !adj ts (x : Int) a)) (f := fun x : Nat => ((x : Int), b))]
    rw [List.filter_map, List.filter_map, List.map_map, List.filter_filter]
    refine congrArg (List.map _) (List.filter_congr fun x _ => ?_)
    show _ = ((!decide ((x : Int) = a) && !adj ts a (x : Int)) && adj ts b (x : Int))
    rw [adj_sym (a := (x : Int)) (b := b), adj_sym (a := (x : Int)) (b := a)]
    cases decide ((x : Int) = a) <;> cases adj ts b (x : Int) <;> cases adj ts a (x : Int) <;> rfl
  rw [e1, e2]
theorem sortP_congr {l m : List (Int × Int)} (h : l.Perm m) : sortP l = sortP m := sortP_eq ((sortP_perm l).trans h) (sortP_up l)
theorem forU_once {n : Nat} {ts : List (Int × Int)} {a b : Int} : sortP (forU ts a b (List.range n)) = onceL n ts a b := sortP_congr forU_perm
theorem forU_snoc {ts : List (Int × Int)} {a b : Int} {j : Nat} : forU ts a b (List.range (j + 1)) = (forU ts a b (List.range j) ++ forA ts a b (j : Int)) ++ forB ts a b (j : Int) := by
  unfold forU
  rw [List.range_succ, List.flatMap_append, List.flatMap_cons, List.flatMap_nil, List.append_nil, List.append_assoc]
/-- the points a step apart, row by row, that are not tied: the lesser second -/
def rowV (ts : List (Int × Int)) (a : Nat) : List (Int × Int) := ((List.range a).filter fun y : Nat => !adj ts (a : Int) (y : Int)).map fun y : Nat => ((a : Int), (y : Int))
def notT (ts : List (Int × Int)) (m : Nat) : List (Int × Int) := (List.range m).flatMap (rowV ts)
theorem rowV_len {ts : List (Int × Int)} {a : Nat} : (rowV ts a).length ≤ a := by
  unfold rowV
  rw [List.length_map]
  exact Nat.le_trans (List.length_filter_le _ _) (by rw [List.length_range]; exact Nat.le_refl _)
theorem notT_len {ts : List (Int × Int)} {m : Nat} : (notT ts m).length ≤ m * m := by
  have h := len_flat (f := rowV ts) (B := m) (l := List.range m) fun x hx => Nat.le_trans rowV_len (Nat.le_of_lt (List.mem_range.mp hx))
  rwa [List.length_range] at h
theorem notT_mem {ts : List (Int × Int)} {m : Nat} {p : Int × Int} : p ∈ notT ts m ↔ ∃ x y : Nat, p = ((x : Int), (y : Int)) ∧ y < x ∧ x < m ∧ adj ts (x : Int) (y : Int) = false := by
  unfold notT rowV
  simp only [List.mem_flatMap, List.mem_range, List.mem_map, List.mem_filter, Bool.not_eq_true']
  constructor
  · rintro ⟨x, hx, y, ⟨hy, h⟩, rfl⟩
    exact ⟨x, y, rfl, hy, hx, h⟩
  · rintro ⟨x, y, rfl, hy, hx, h⟩
    exact ⟨x, hx, y, ⟨hy, h⟩, rfl⟩
theorem notT_snoc {ts : List (Int × Int)} {m : Nat} : notT ts (m + 1) = notT ts m ++ rowV ts m := by
  unfold notT
  rw [List.range_succ, List.flatMap_append, List.flatMap_cons, List.flatMap_nil, List.append_nil]
theorem notT_upT {ts : List (Int × Int)} {m : Nat} : notT ts m = (upT m fun y x => !adj ts (x : Int) (y : Int)).map sw := by
  unfold notT upT
  rw [List.map_flatMap]
  refine flat_congr fun x _ => ?_
  unfold rowV
  rw [List.map_map]
  rfl
theorem notT_tied (ts : List (Int × Int)) (m : Nat) : Tied m (notT ts m) := by
  refine ⟨fun t h => ?_, ?_⟩
  · obtain ⟨x, y, rfl, h1, h2, _⟩ := notT_mem.mp h
    refine ⟨?_, ?_, ?_, ?_, ?_⟩ <;> simp <;> omega
  · rw [notT_upT, List.pairwise_map]
    refine (upT_tied m _).2.imp ?_
    rintro ⟨a, b⟩ ⟨c, d⟩ ⟨h1, h2⟩
    refine ⟨fun e => h1 ?_, fun e => h2 ?_⟩
    · simp [sw] at e
      simp [e.1, e.2]
    · simp [sw] at e ⊢
      simp [e.1, e.2]
theorem adj_iff {ts : List (Int × Int)} {a b : Int} : adj ts a b = true ↔ ((a, b) ∈ ts ∨ (b, a) ∈ ts) := by unfold adj; exact decide_eq_true_iff
theorem adj_pt {n : Nat} {ts : List (Int × Int)} (h : Tied n ts) {a b : Int} (e : adj ts a b = true) : isPt n a = true ∧ isPt n b = true := by
  rcases adj_iff.mp e with z | z
  · have := h.1 _ z
    exact ⟨isPt_iff.mpr (by omega), isPt_iff.mpr (by omega)⟩
  · have := h.1 _ z
    exact ⟨isPt_iff.mpr (by omega), isPt_iff.mpr (by omega)⟩
theorem adj_ne {n : Nat} {ts : List (Int × Int)} (h : Tied n ts) {a b : Int} (e : adj ts a b = true) : a ≠ b := by
  rcases adj_iff.mp e with z | z
  · have := h.1 _ z
    intro e; simp at this; omega
  · have := h.1 _ z
    intro e; simp at this; omega
/-- tied twice over is tied -/
theorem adj_opp_not {n : Nat} {ts : List (Int × Int)} (h : Tied n ts) {a b : Int} (ha : 0 ≤ a ∧ a < n) (hb : 0 ≤ b ∧ b < n) : adj (oppT n (notT ts n)) a b = adj ts a b := by
  have key : ∀ y x : Nat, y < x → x < n → adj (oppT n (notT ts n)) (y : Int) (x : Int) = adj ts (y : Int) (x : Int) := fun y x h1 h2 => by
    unfold oppT
    rw [adj_upT h1 h2]
    have e : adj (notT ts n) (y : Int) (x : Int) = !adj ts (y : Int) (x : Int) := by
      cases hz : adj ts (y : Int) (x : Int) with
      | false =>
        exact adj_iff.mpr (.inr (notT_mem.mpr ⟨x, y, rfl, h1, h2, by rw [adj_sym]; exact hz⟩))
      | true =>
        show _ = false
        rw [Bool.eq_false_iff]
        intro z
        rcases adj_iff.mp z with z | z
        · obtain ⟨x', y', e, h3, _, h5⟩ := notT_mem.mp z
          cases e
          omega
        · obtain ⟨x', y', e, h3, _, h5⟩ := notT_mem.mp z
          have e1 : (x : Int) = x' := congrArg Prod.fst e
          have e2 : (y : Int) = y' := congrArg Prod.snd e
          rw [← e1, ← e2, adj_sym, hz] at h5
          cases h5
    rw [e, Bool.not_not]
  obtain ⟨x, rfl⟩ := Int.eq_ofNat_of_zero_le ha.1
  obtain ⟨y, rfl⟩ := Int.eq_ofNat_of_zero_le hb.1
  rcases Nat.lt_trichotomy x y with z | z | z
  · exact key x y z (by omega)
  · subst z
    have e1 : adj ts (x : Int) (x : Int) = false := by
      rw [Bool.eq_false_iff]
      exact fun z => adj_ne h z rfl
    have e2 : adj (oppT n (notT ts n)) (x : Int) (x : Int) = false := by
      rw [Bool.eq_false_iff]
      exact fun z => adj_ne (upT_tied _ _) z rfl
    rw [e1, e2]
  · rw [adj_sym, adj_sym (ts := ts)]
    exact key y x z (by omega)
theorem near_congr {n : Nat} {ts us : List (Int × Int)} {v : Int} (h : ∀ x : Int, (0 ≤ x ∧ x < n) → adj us v x = adj ts v x) : nearL n us v = nearL n ts v := by
  unfold nearL
  exact List.filter_congr fun x hx => h x (pts_mem.mp hx)
theorem rowsN_opp_not {n : Nat} {ts : List (Int × Int)} (h : Tied n ts) : rowsN n (oppT n (notT ts n)) = rowsN n ts := by
  unfold rowsN
  refine List.map_congr_left fun v hv => ?_
  rw [near_congr fun x hx => adj_opp_not h (by have := List.mem_range.mp hv; omega) hx]
theorem once_mem {n : Nat} {ts : List (Int × Int)} {a b : Int} {p : Int × Int} : p ∈ onceL n ts a b ↔ p ∈ awayL n ts a b ∨ p ∈ towardL n ts a b := by
  unfold onceL
  rw [(sortP_perm _).mem_iff, List.mem_append]
/-- forcing goes both ways -/
theorem once_sym {n : Nat} {ts : List (Int × Int)} (h : Tied n ts) {a b x y : Int} (hab : adj ts a b = true) (hm : (x, y) ∈ onceL n ts a b) : (a, b) ∈ onceL n ts x y := by
  obtain ⟨pa, pb⟩ := adj_pt h hab
  rw [once_mem] at hm ⊢
  rcases hm with hm | hm
  · obtain ⟨e, h1, h2, h3, h4⟩ := away_mem.mp hm
    simp only at e h1 h2 h3 h4
    subst e
    exact .inl (away_mem.mpr ⟨rfl, isPt_iff.mp pb, hab, fun z => h3 z.symm, by rw [adj_sym]; exact h4⟩)
  · obtain ⟨e, h1, h2, h3, h4⟩ := toward_mem.mp hm
    simp only at e h1 h2 h3 h4
    subst e
    exact .inr (toward_mem.mpr ⟨rfl, isPt_iff.mp pa, by rw [adj_sym]; exact hab, fun z => h3 z.symm, by rw [adj_sym]; exact h4⟩)
theorem once_adj {n : Nat} {ts : List (Int × Int)} {a b x y : Int} (hm : (x, y) ∈ onceL n ts a b) : adj ts x y = true := by
  rcases once_mem.mp hm with hm | hm
  · obtain ⟨e, h1, h2, h3, h4⟩ := away_mem.mp hm
    simp only at e h1 h2 h3 h4
    subst e
    exact h2
  · obtain ⟨e, h1, h2, h3, h4⟩ := toward_mem.mp hm
    simp only at e h1 h2 h3 h4
    subst e
    rw [adj_sym]
    exact h2
end DL

end
section
set_option maxHeartbeats 4000000
namespace Pn
open PySem PySem.Spec L2 DL
/-- a pair that is an arrow, or is not -/
abbrev rNeedA (c : At) (ar : Addr) : List D → (Out → Prop) → Prop := fun ds post => ∃ (n : Nat) (ts : List (Int × Int)) (a b : Int), ds = [netD c n ts, dP (a, b)] ∧ (n ≤ 24 ∧ Tied n ts ∧ Bd a ∧ Bd b) ∧ (adj ts a b = true → post (.ret .non)) ∧ (adj ts a b = false → post (.exc ar))
theorem away_map {n : Nat} {ts : List (Int × Int)} {a b : Int} : (((nearL n ts a).map D.int).filter fun d => match d with | .int x => !decide (x = b) && !adj ts b x | _ => false).map (fun d => D.tup [.int a, d]) = (awayL n ts a b).map dP := by
  unfold awayL
  rw [List.filter_map, List.map_map, List.map_map]
  rfl
theorem toward_map {n : Nat} {ts : List (Int × Int)} {a b : Int} : (((nearL n ts b).map D.int).filter fun d => match d with | .int x => !decide (x = a) && !adj ts a x | _ => false).map (fun d => D.tup [d, .int b]) = (towardL n ts a b).map dP := by
  unfold towardL
  rw [List.filter_map, List.map_map, List.map_map]
  rfl
theorem ints_at {l : List Int} {j : Nat} {d : D} (h : (l.map D.int)[j]? = some d) : ∃ x, x ∈ l ∧ d = .int x := by
  rw [List.getElem?_map] at h
  cases e : l[j]? with
  | none => rw [e] at h; cases h
  | some k => rw [e] at h; exact ⟨k, List.mem_of_getElem? e, (Option.some.inj h).symm⟩
abbrev rOnce (c : At) : List D → (Out → Prop) → Prop := fun ds post => ∃ (n : Nat) (ts : List (Int × Int)) (a b : Int), ds = [netD c n ts, dP (a, b)] ∧ (n ≤ 24 ∧ Tied n ts ∧ adj ts a b = true) ∧ post (.ret (.lst ((onceL n ts a b).map dP)))
abbrev rForced (c : At) (ar : Addr) : List D → (Out → Prop) → Prop := fun ds post => ∃ (n : Nat) (ts : List (Int × Int)) (a b : Int), ds = [netD c n ts, dP (a, b)] ∧ (n ≤ 24 ∧ Tied n ts ∧ Bd a ∧ Bd b) ∧ (adj ts a b = true → post (.ret (.lst ((onceL n ts a b).map dP)))) ∧ (adj ts a b = false → post (.exc ar))
section
variable {P : Program} {w : World} {K : PySem.W.Frag} {mg : Str → Option Value} {base : Heap} {c : At} {ar : Addr}
abbrev s_need_arrow : Stmt := top 19
theorem sc_need_arrow : FnScope ["net", "arrow", "tail", "head", "both"] ["net", "arrow"] (defScope s_need_arrow) := ⟨rfl, rfl, rfl, by decide +kernel, rfl, by decide +kernel, by decide +kernel⟩
theorem ok_need_arrow {f ft : Addr} {fd fdt : FuncData} {pst : List Str} (F : Fun K "_need_arrow" "_need_arrow" s_need_arrow f fd) (T : LawK K mg c) (ea : ExF K mg "NoArrow" ar) (gIsPoint : FnC P w K mg base CX0 1 "is_point" rPoint) (mTied : MtC P w K mg base (L2N.CX P w) 3 c.net "tied" ft fdt pst (rTied c)) : FnOk P w K mg base (L2N.CX P w) 4 f fd ["net", "arrow"] (spD K (rNeedA c ar)) := by
  have nd := sc_need_arrow.nd
  refine fn_okX F sc_need_arrow (by rintro _ _ ⟨_, _, _, _, rfl, _⟩; rfl) (by decide) ?_
  rintro X _ post ⟨cdv, A, outer, s, H, E, rfl⟩ hr ⟨n, ts, a, b, rfl, ⟨hn, ht, ha, hb⟩, hp, hq⟩
  refine sxs_cons (sx_unp2 2 3 rfl nd (ex_v 1) (sxs_cons (sx_set 4 nd (EX.to (d' := .bl (isPt n a && isPt n b)) (ex_and (EX.bo (ex_call gIsPoint (hr.mono (by decide)) pass0 (ea_cons (ex_fld T.cl T.n_many (ex_v 0) l_many) (ea_cons (ex_v 2) ea_nil)) ⟨_, _, rfl, rfl⟩)) (fun hB => (ex_one (ex_call gIsPoint (hr.mono (by decide)) pass0 (ea_cons (ex_fld T.cl T.n_many (ex_v 0) l_many) (ea_cons (ex_v 3) ea_nil)) ⟨_, _, rfl, rfl⟩)))) (by simp)) ?_)))
  refine sxs_one (sx_if (k := !(isPt n a && isPt n b) || !adj ts a b) ?_ (fun h => ?_) (fun h => sxs_nil ?_))
  · exact (WB.t (wx_or (tx_not (tx_val (eb_v 4))) (fun hB => (wx_or1 (tx_not (tx_val (EX.bo (ex_methA (pe_meth pe_w T.cl mTied.me mTied.ok (hr.mono (by decide)) mTied.bi .nil passN pa_w) (ex_v 0) rfl (ea_cons (ex_v 2) (ea_cons (ex_v 3) ea_nil)) (by exact ⟨n, ts, a, b, rfl, ⟨hn, ha, hb⟩, fun _ => rfl, fun h => (by rw [h] at hB; cases hB)⟩)))))))))
  · have e : adj ts a b = false := by
      cases z : adj ts a b with
      | false => rfl
      | true =>
        obtain ⟨z1, z2⟩ := adj_pt ht z
        rw [z, z1, z2] at h
        cases h
    refine sxs_one (sx_raise rfl ea (es_join (ej_cons (es_c (n := 10) (by decide +kernel)) (ej_cons (es_fmt (eb_v 2) ha) (ej_cons (es_c (n := 10) (by decide +kernel)) (ej_cons (es_fmt (eb_v 3) hb) (ej_cons (es_c (n := 40) (by decide +kernel)) ej_nil)))))) ?_)
    exact hq e
  · refine hp ?_
    revert h
    cases adj ts a b <;> simp
abbrev s_at_once : Stmt := top 20
theorem sc_at_once : FnScope ["net", "arrow", "tail", "head", "away", "toward", "third"] ["net", "arrow"] (defScope s_at_once) := ⟨rfl, rfl, rfl, by decide +kernel, rfl, by decide +kernel, by decide +kernel⟩
theorem ok_at_once {f ft fn : Addr} {fd fdt fdn : FuncData} {pst psn : List Str} (F : Fun K "_at_once" "_at_once" s_at_once f fd) (T : LawK K mg c) (mTied : MtC P w K mg base (L2N.CX P w) 3 c.net "tied" ft fdt pst (rTied c)) (mNear : MtC P w K mg base (L2N.CX P w) 3 c.net "near" fn fdn psn (rNear c)) : FnOk P w K mg base CX0 4 f fd ["net", "arrow"] (spN K (rOnce c)) := by
  have nd := sc_at_once.nd
  refine fn_okN F sc_at_once (by rintro _ _ ⟨_, _, _, _, rfl, _⟩; rfl) (by decide) ?_
  rintro X _ post ⟨cdv, A, outer, s, H, E, rfl⟩ hr ⟨n, ts, a, b, rfl, ⟨hn, ht, hab⟩, hp⟩
  obtain ⟨ha, hb⟩ := adj_pt ht hab
  have ha2 := isPt_iff.mp ha
  have hb2 := isPt_iff.mp hb
  have la := near_len n ts a
  have lb := near_len n ts b
  refine sxo_cons (sx_unp2 2 3 rfl nd (ex_v 1) (sxo_cons (sx_setR 4 (ro_Lif rfl (fun d => D.tup [.int a, d]) (fun d => match d with | .int x => !decide (x = b) && !adj ts b x | _ => false) (ex_methA (pe_meth pe_w T.cl mNear.me mNear.ok (hr.mono (by decide)) mNear.bi .nil passN pa_w) (ex_v 0) rfl (ea_cons (ex_v 2) ea_nil) (by exact ⟨n, ts, _, rfl, ⟨hn, bd_small (by omega)⟩, fun _ => rfl, fun h => (by first | (rw [ha] at h; cases h) | (rw [hb] at h; cases h))⟩)) (by simp only [List.length_map]; omega) (fun j d hd => ?_) (fun j d hd hp2 => ?_)) (ps_setLc (i := 4) (own := [("third", 6)]) (g := gName 6) rfl nd rfl rfl (sw_true rfl rfl rfl (by decide +kernel)) (pi_list pe_w) (blkOk_by (N := ["net", "arrow", "tail", "head", "away", "toward", "third"]) (sc := defScope s_at_once) (by decide +kernel)) (fun _ _ _ _ _ => pg_name (i := 6) nd rfl (by first | exact Or.inl rfl | exact Or.inr rfl)) (pts_u) pe_u) (sxo_cons (sx_setR 5 (ro_Lif rfl (fun d => D.tup [d, .int b]) (fun d => match d with | .int x => !decide (x = a) && !adj ts a x | _ => false) (ex_methA (pe_meth pe_w T.cl mNear.me mNear.ok (hr.mono (by decide)) mNear.bi .nil passN pa_w) (ex_v 0) rfl (ea_cons (ex_v 3) ea_nil) (by exact ⟨n, ts, _, rfl, ⟨hn, bd_small (by omega)⟩, fun _ => rfl, fun h => (by first | (rw [ha] at h; cases h) | (rw [hb] at h; cases h))⟩)) (by simp only [List.length_map]; omega) (fun j d hd => ?_) (fun j d hd hp2 => ?_)) (ps_setLc (i := 5) (own := [("third", 6)]) (g := gName 6) rfl nd rfl rfl (sw_true rfl rfl rfl (by decide +kernel)) (pi_list pe_w) (blkOk_by (N := ["net", "arrow", "tail", "head", "away", "toward", "third"]) (sc := defScope s_at_once) (by decide +kernel)) (fun _ _ _ _ _ => pg_name (i := 6) nd rfl (by first | exact Or.inl rfl | exact Or.inr rfl)) (pts_u) pe_u) ?_)))))
  · obtain ⟨x, hx0, rfl⟩ := ints_at hd
    have hx2 := (near_mem.mp hx0).1
    have hx : isPt n x = true := isPt_of hx2
    intro _ _ _ _ _
    exact (WB.t (wx_and (tx_neI (eb_v 6) (eb_v 3)) (fun hB => (wx_and1 (tx_not (tx_val (EX.bo (ex_methA (pe_meth pe_w T.cl mTied.me mTied.ok (hr.mono (by decide)) mTied.bi .nil passN pa_w) (ex_v 0) rfl (ea_cons (ex_v 3) (ea_cons (ex_v 6) ea_nil)) (by exact ⟨n, ts, _, _, rfl, ⟨hn, bd_small (by omega), bd_small (by omega)⟩, fun _ => rfl, fun h => (by first | (rw [hb, hx] at h; cases h) | (rw [ha, hx] at h; cases h))⟩)))))))))
  · obtain ⟨x, hx0, rfl⟩ := ints_at hd
    intro _ _ _ _ _
    exact (ex_tup (ea_cons (ex_v 2) (ea_cons (ex_v 6) ea_nil)))
  · obtain ⟨x, hx0, rfl⟩ := ints_at hd
    have hx2 := (near_mem.mp hx0).1
    have hx : isPt n x = true := isPt_of hx2
    intro _ _ _ _ _
    exact (WB.t (wx_and (tx_neI (eb_v 6) (eb_v 2)) (fun hB => (wx_and1 (tx_not (tx_val (EX.bo (ex_methA (pe_meth pe_w T.cl mTied.me mTied.ok (hr.mono (by decide)) mTied.bi .nil passN pa_w) (ex_v 0) rfl (ea_cons (ex_v 2) (ea_cons (ex_v 6) ea_nil)) (by exact ⟨n, ts, _, _, rfl, ⟨hn, bd_small (by omega), bd_small (by omega)⟩, fun _ => rfl, fun h => (by first | (rw [hb, hx] at h; cases h) | (rw [ha, hx] at h; cases h))⟩)))))))))
  · obtain ⟨x, hx0, rfl⟩ := ints_at hd
    intro _ _ _ _ _
    exact (ex_tup (ea_cons (ex_v 6) (ea_cons (ex_v 3) ea_nil)))
  · rw [away_map, toward_map]
    refine sxo_frL 4 rfl (sxo_frL 5 rfl ?_)
    refine sxo_ret (eo_sortedP (ps := awayL n ts a b ++ towardL n ts a b) T.sorted (EX.to (EO.x (eo_cat (ex_v 4) (ex_v 5) ?_)) (by rw [List.map_append]))) hp
    have h1 := away_len (n := n) (ts := ts) (a := a) (b := b)
    have h2 := toward_len (n := n) (ts := ts) (a := a) (b := b)
    rw [List.length_map, List.length_map]
    omega
abbrev sforced : Stmt := top 22
theorem scforced : FnScope ["net", "arrow"] ["net", "arrow"] (defScope sforced) := ⟨rfl, rfl, rfl, by decide +kernel, rfl, by decide +kernel, by decide +kernel⟩
theorem ok_forced {f : Addr} {fd : FuncData} (F : Fun K "forced" "forced" sforced f fd) (gNeedA : FnC P w K mg base (L2N.CX P w) 4 "_need_arrow" (rNeedA c ar)) (gOnceN : FnN P w K mg base CX0 4 "_at_once" (rOnce c)) : FnOk P w K mg base (L2N.CX P w) 5 f fd ["net", "arrow"] (spN K (rForced c ar)) := by
  have nd := scforced.nd
  refine fn_okNX F scforced (by rintro _ _ ⟨_, _, _, _, rfl, _⟩; rfl) (by decide) ?_
  rintro X _ post ⟨cdv, A, outer, s, H, E, rfl⟩ hr ⟨n, ts, a, b, rfl, ⟨hn, ht, ha, hb⟩, hp, hq⟩
  refine sxo_cons (sx_exprX (exr_call (post := fun o => (o = .ret .non ∧ adj ts a b = true) ∨ (o = .exc ar ∧ adj ts a b = false)) gNeedA (hr.mono (by decide)) (ea_cons (ex_v 0) (ea_cons (ex_v 1) ea_nil)) (by exact ⟨n, ts, a, b, rfl, ⟨hn, ht, ha, hb⟩, fun h => .inl ⟨rfl, h⟩, fun h => .inr ⟨rfl, h⟩⟩)) ?_ ?_)
  · rintro d (⟨_, h1⟩ | ⟨e, _⟩)
    · exact sxo_ret (eo_call gOnceN (hr.mono (by decide)) pass0 (ea_cons (ex_v 0) (ea_cons (ex_v 1) ea_nil)) (by exact ⟨n, ts, a, b, rfl, ⟨hn, ht, h1⟩, rfl⟩)) (hp h1)
    · cases e
  · rintro Cl (⟨e, _⟩ | ⟨e, h1⟩)
    · cases e
    · cases e; exact hq h1
end
end Pn

end
section
set_option maxHeartbeats 2000000
namespace DL
open PySem PySem.Spec L2
theorem pyA_any {q : PyData → Bool} : ∀ ds : List D, (pyA ds).any q = ds.any fun d => q d.py
  | [] => rfl
  | d :: ds => by
    unfold pyA
    rw [List.any_cons, List.any_cons, pyA_any ds]
theorem inS_of {K : PySem.W.Frag} {n m : Nat} {da : D} {ds : List D} (ha : Sh n da) (hb : Sh m (.lst ds)) (hn : n ≤ 64) (hm : m ≤ 64) : ∀ x y H (Q : VK), Rep K H x da → Rep K H y (.lst ds) → Q (.bl (ds.any fun z => eqS z da)) H → rInD K x y H Q :=
  fun x y H Q rx ry q => ⟨_, _, sh_dp ha rx, sh_dp hb ry, sh_shaped hn ha, sh_shaped hm hb, by rw [pyA_any]; exact q⟩
theorem ninS_of {K : PySem.W.Frag} {n m : Nat} {da : D} {ds : List D} (ha : Sh n da) (hb : Sh m (.lst ds)) (hn : n ≤ 64) (hm : m ≤ 64) : ∀ x y H (Q : VK), Rep K H x da → Rep K H y (.lst ds) → Q (.bl (!ds.any fun z => eqS z da)) H → rNotInD K x y H Q :=
  fun x y H Q rx ry q => ⟨_, _, sh_dp ha rx, sh_dp hb ry, sh_shaped hn ha, sh_shaped hm hb, by rw [pyA_any]; exact q⟩
theorem any_in {α : Type} [BEq α] [LawfulBEq α] {g : α → D} {n : Nat} (hs : ∀ x, Sh n (g x)) (hi : ∀ x y, g x = g y → x = y) {p : α} : ∀ ps : List α, ((ps.map g).any fun z => eqS z (g p)) = decide (p ∈ ps)
  | [] => rfl
  | x :: ps => by
    rw [List.map_cons, List.any_cons, any_in hs hi ps]
    by_cases h : x = p
    · subst h
      rw [(eqS_iff (hs x) (hs x)).mpr rfl]
      simp
    · rw [eqS_no (hs x) (hs p) (fun e => h (hi _ _ e))]
      have h2 : ¬ p = x := fun e => h e.symm
      simp [h2]
section
variable {X : Cx} {cs : List C} {a b : Expr} {pos : Pos} {k n m : Nat} {da : D} {ds : List D}
theorem ex_inS (hr : Room k X.A) (ha : EB X cs a da) (hb : EB X cs b (.lst ds)) (sa : Sh n da) (sb : Sh m (.lst ds)) (hn : n ≤ 64 := by decide) (hm : m ≤ 64 := by decide) (hk : behindInMarks .In b = false := by rfl) : EX X cs (.Compare a [.In] [b] pos) (.bl (ds.any fun z => eqS z da)) := eb_cmp (op_inD (by have := hr.un; omega)) ha hb hk (fun _ => .bl _) (inS_of sa sb hn hm)
theorem ex_ninS (hr : Room k X.A) (ha : EB X cs a da) (hb : EB X cs b (.lst ds)) (sa : Sh n da) (sb : Sh m (.lst ds)) (hn : n ≤ 64 := by decide) (hm : m ≤ 64 := by decide) (hk : behindInMarks .NotIn b = false := by rfl) : EX X cs (.Compare a [.NotIn] [b] pos) (.bl (!ds.any fun z => eqS z da)) := eb_cmp (op_notInD (by have := hr.un; omega)) ha hb hk (fun _ => .bl _) (ninS_of sa sb hn hm)
theorem tx_inS (hr : Room k X.A) (ha : EB X cs a da) (hb : EB X cs b (.lst ds)) (sa : Sh n da) (sb : Sh m (.lst ds)) (hn : n ≤ 64 := by decide) (hm : m ≤ 64 := by decide) (hk : behindInMarks .In b = false := by rfl) : TX X cs (.Compare a [.In] [b] pos) (ds.any fun z => eqS z da) := tx_cmp (op_inD (by have := hr.un; omega)) ha hb hk (inS_of sa sb hn hm)
theorem tx_ninS (hr : Room k X.A) (ha : EB X cs a da) (hb : EB X cs b (.lst ds)) (sa : Sh n da) (sb : Sh m (.lst ds)) (hn : n ≤ 64 := by decide) (hm : m ≤ 64 := by decide) (hk : behindInMarks .NotIn b = false := by rfl) : TX X cs (.Compare a [.NotIn] [b] pos) (!ds.any fun z => eqS z da) := tx_cmp (op_notInD (by have := hr.un; omega)) ha hb hk (ninS_of sa sb hn hm)
end
theorem dP_inj : ∀ x y : Int × Int, dP x = dP y → x = y
  | (a, b), (c, d), e => by
    cases e
    rfl
theorem sh_dP (p : Int × Int) : Sh 1 (dP p) := sh_pair (n := 0)
theorem any_dP {ps : List (Int × Int)} {i j : Int} : ((ps.map dP).any fun z => eqS z (.tup [.int i, .int j])) = decide ((i, j) ∈ ps) := any_in (g := dP) (p := (i, j)) sh_dP dP_inj ps
section
variable {X : Cx} {cs : List C} {a b : Expr} {pos : Pos} {k : Nat} {i j : Int} {ps : List (Int × Int)}
theorem ex_inP (hr : Room k X.A) (ha : EB X cs a (.tup [.int i, .int j])) (hb : EB X cs b (.lst (ps.map dP))) (hk : behindInMarks .In b = false := by rfl) : EX X cs (.Compare a [.In] [b] pos) (.bl (decide ((i, j) ∈ ps))) := by
  have h := ex_inS (pos := pos) hr ha hb (sh_dP (i, j)) (sh_pairs (n := 0)) (hk := hk)
  rwa [any_dP] at h
theorem ex_ninP (hr : Room k X.A) (ha : EB X cs a (.tup [.int i, .int j])) (hb : EB X cs b (.lst (ps.map dP))) (hk : behindInMarks .NotIn b = false := by rfl) : EX X cs (.Compare a [.NotIn] [b] pos) (.bl (!decide ((i, j) ∈ ps))) := by
  have h := ex_ninS (pos := pos) hr ha hb (sh_dP (i, j)) (sh_pairs (n := 0)) (hk := hk)
  rwa [any_dP] at h
theorem tx_inP (hr : Room k X.A) (ha : EB X cs a (.tup [.int i, .int j])) (hb : EB X cs b (.lst (ps.map dP))) (hk : behindInMarks .In b = false := by rfl) : TX X cs (.Compare a [.In] [b] pos) (decide ((i, j) ∈ ps)) := by
  have h := tx_inS (pos := pos) hr ha hb (sh_dP (i, j)) (sh_pairs (n := 0)) (hk := hk)
  rwa [any_dP] at h
theorem tx_ninP (hr : Room k X.A) (ha : EB X cs a (.tup [.int i, .int j])) (hb : EB X cs b (.lst (ps.map dP))) (hk : behindInMarks .NotIn b = false := by rfl) : TX X cs (.Compare a [.NotIn] [b] pos) (!decide ((i, j) ∈ ps)) := by
  have h := tx_ninS (pos := pos) hr ha hb (sh_dP (i, j)) (sh_pairs (n := 0)) (hk := hk)
  rwa [any_dP] at h
end
end DL
namespace DL
theorem dP_ok {l : List (Int × Int)} (h : l.length ≤ 100000) : (l.map dP).length ≤ 100000 ∧ ∀ x ∈ l.map dP, TI 2 x := by
  refine ⟨by rw [List.length_map]; exact h, fun x hx => ?_⟩
  obtain ⟨p, _, rfl⟩ := List.mem_map.mp hx
  exact ti_pair
end DL

end
section
set_option maxHeartbeats 2000000
namespace Lw
open PySem PySem.Spec L2 DL
abbrev rLaw : List D → (Out → Prop) → Prop := fun ds post => ∃ ns : List Int, ds = [.scr ns] ∧ post (.ret (.bl true))
section
variable {P : Program} {w : World} {K : PySem.W.Frag} {mg : Str → Option Value} {base : Heap}
def spLaw (K : PySem.W.Frag) : Sp := fun vs H Q _ => ∃ (a : Addr) (ns : List Int), vs = [.ref a] ∧ SqL K H a (ns.map V.int) ∧ ∀ H', Q (.bl true) H'
theorem law_sp {CX : CXT} {k : Nat} {f : Addr} {fd : FuncData} {ps : List Str} (F : FnOk P w K mg base CX k f fd ps (spD K rLaw)) : FnOk P w K mg base CX k f fd ps (spLaw K) := F.imp fun vs H Q E h => by
  obtain ⟨a, ns, rfl, hS, q⟩ := h
  exact ⟨H, [.scr ns], fun o => o = .ret (.bl true), Same.refl _, .cons (.scr hS) .nil, ⟨ns, rfl, rfl⟩, fun d v H' H0' e g r => by cases e; cases r; exact q _, fun _ _ e => nomatch e⟩
end
end Lw

end
section
set_option maxHeartbeats 4000000
namespace Lw
open PySem PySem.Spec L2 DL
abbrev rBuilt (c : Pn.At) : List D → (Out → Prop) → Prop := fun ds post => ∃ (n : Nat) (ts : List (Int × Int)) (z : Int), ds = [.int n, .lst (ts.map dP), .int z] ∧ (n ≤ 24 ∧ Tied n ts ∧ ts.length ≤ 900) ∧ post (.ret (Pn.netD c n ts))
abbrev rForces : List D → (Out → Prop) → Prop := fun ds post => ∃ (n : Nat) (ts : List (Int × Int)) (p : Int × Int), ds = [.dic (dk (bothK ts) fun _ => true), .int n, dP p] ∧ n ≤ 24 ∧ post (.ret (.lst ((onceL n ts p.1 p.2).map dP)))
/-- the law's arrow, or what is none -/
def arrowOf (ts : List (Int × Int)) (z : Int) (n : Nat) : Int × Int :=
  let l := sortP (bothK ts)
  if (!l.isEmpty && decide (0 < z % 5)) = true then l.getD ((z / 5 % (l.length : Int)).toNat) (0, 0)
  else if z / 5 % 6 = 5 then (z / 30 % (2 * 10 ^ 20) - 10 ^ 20, z / 35 % ((n : Int) + 3) - 1) else (z / 5 % ((n : Int) + 3) - 1, z / 35 % ((n : Int) + 3) - 1)
theorem bothK_adj {ts : List (Int × Int)} {p : Int × Int} : p ∈ bothK ts ↔ adj ts p.1 p.2 = true := by
  have h := both_has (ts := ts) (a := p.1) (b := p.2)
  rw [lk_has] at h
  rw [← h, decide_eq_true_iff]
theorem arrow_bd {ts : List (Int × Int)} {z : Int} {n : Nat} (hn : n ≤ 24) (ht : Tied n ts) : Pn.Bd (arrowOf ts z n).1 ∧ Pn.Bd (arrowOf ts z n).2 := by
  have q1 : 0 ≤ z / 5 % ((n : Int) + 3) ∧ z / 5 % ((n : Int) + 3) < (n : Int) + 3 := ⟨Int.emod_nonneg _ (by omega), Int.emod_lt_of_pos _ (by omega)⟩
  have q2 : 0 ≤ z / 35 % ((n : Int) + 3) ∧ z / 35 % ((n : Int) + 3) < (n : Int) + 3 := ⟨Int.emod_nonneg _ (by omega), Int.emod_lt_of_pos _ (by omega)⟩
  have q3 : 0 ≤ z / 30 % (2 * (10 : Int) ^ 20) ∧ z / 30 % (2 * (10 : Int) ^ 20) < 2 * 10 ^ 20 := ⟨Int.emod_nonneg _ (by decide), Int.emod_lt_of_pos _ (by decide)⟩
  unfold arrowOf
  simp only
  split
  · rename_i h
    simp only [Bool.and_eq_true, Bool.not_eq_true', List.isEmpty_eq_false_iff, decide_eq_true_eq] at h
    have hl : 0 < (sortP (bothK ts)).length := List.length_pos_iff.mpr h.1
    have q4 : 0 ≤ z / 5 % ((sortP (bothK ts)).length : Int) := Int.emod_nonneg _ (by omega)
    have q5 : z / 5 % ((sortP (bothK ts)).length : Int) < ((sortP (bothK ts)).length : Int) := Int.emod_lt_of_pos _ (by omega)
    have hm : (sortP (bothK ts)).getD ((z / 5 % ((sortP (bothK ts)).length : Int)).toNat) (0, 0) ∈ bothK ts := by
      rw [List.getD_eq_getElem?_getD, List.getElem?_eq_getElem (by omega)]
      exact (sortP_perm _).mem_iff.mp (List.getElem_mem _)
    generalize (sortP (bothK ts)).getD ((z / 5 % ((sortP (bothK ts)).length : Int)).toNat) (0, 0) = p at hm
    obtain ⟨h1, h2⟩ := adj_pt ht (bothK_adj.mp hm)
    have h1 := isPt_iff.mp h1
    have h2 := isPt_iff.mp h2
    exact ⟨Pn.bd_small (by omega), Pn.bd_small (by omega)⟩
  · split
    · refine ⟨?_, Pn.bd_small (by omega)⟩
      show (z / 30 % (2 * 10 ^ 20) - 10 ^ 20).natAbs < 2 ^ 200
      have h3 : (10 : Int) ^ 20 < 2 ^ 200 := by decide
      omega
    · exact ⟨Pn.bd_small (by omega), Pn.bd_small (by omega)⟩
abbrev rArrow : List D → (Out → Prop) → Prop := fun ds post => ∃ (n : Nat) (ts : List (Int × Int)) (z : Int), ds = [.dic (dk (bothK ts) fun _ => true), .int z, .int n] ∧ (n ≤ 24 ∧ ts.length ≤ 900) ∧ post (.ret (dP (arrowOf ts z n)))
theorem at_pairs {l : List (Int × Int)} {i : Int} (h : 0 ≤ i ∧ i < l.length) : atI (l.map dP) i = some (dP (l.getD i.toNat (0, 0))) := by
  obtain ⟨k, rfl⟩ := Int.eq_ofNat_of_zero_le h.1
  refine atI_nat ?_
  rw [List.getElem?_map, List.getElem?_eq_getElem (by omega)]
  simp [List.getD_eq_getElem?_getD, List.getElem?_eq_getElem (show k < l.length by omega)]
section
variable {P : Program} {w : World} {K : PySem.W.Frag} {mg : Str → Option Value} {base : Heap} {c : Pn.At}
abbrev s_law_forces : Stmt := top 49
theorem sc_law_forces : FnScope ["_law_both_here", "_law_many", "_law_arrow_here", "_law_one", "_law_other", "_law_found", "_law_point"] ["_law_both_here", "_law_many", "_law_arrow_here"] (defScope s_law_forces) := ⟨rfl, rfl, rfl, by decide +kernel, rfl, by decide +kernel, by decide +kernel⟩
theorem ok_forces {f : Addr} {fd : FuncData} (F : Fun K "_law_forces" "_law_forces" s_law_forces f fd) (T : Glb mg) : FnOk P w K mg base CX0 1 f fd ["_law_both_here", "_law_many", "_law_arrow_here"] (spD K rForces) := by
  have nd := sc_law_forces.nd
  refine fn_okD F sc_law_forces (by rintro _ _ ⟨_, _, _, rfl, _⟩; rfl) (by decide) ?_
  rintro X _ post ⟨cdv, A, outer, s, H, E, rfl⟩ hr ⟨n, ts, ⟨a, b⟩, rfl, hn, hp⟩
  refine sxs_cons (sx_unp2 3 4 rfl nd (ex_v 2) (sxs_cons (sx_setO 5 nd (eo_lst ea_nil) ?_)))
  refine sxs_cons (sx_forR 6 (fun j cs => ∃ v6, cs = [.sh (.dic (dk (bothK ts) fun _ => true)), .sh (.int n), .sh (dP (a, b)), .sh (.int a), .sh (.int b), .ol ((forU ts a b (List.range j)).map dP), v6]) rfl nd .never T.range (eb_v 1) (by omega) ⟨_, rfl⟩ ?_ ?_)
  · rintro j _ hj ⟨v6, rfl⟩
    have hl := forU_len (ts := ts) (a := a) (b := b) (l := List.range j)
    rw [List.length_range] at hl
    have h1 : (forA ts a b (j : Int)).length ≤ 1 := by unfold forA; split <;> simp
    refine sxs_cons (sx_ifJ [.sh (.dic (dk (bothK ts) fun _ => true)), .sh (.int n), .sh (dP (a, b)), .sh (.int a), .sh (.int b), .ol ((forU ts a b (List.range j) ++ forA ts a b (j : Int)).map dP), .sh (.int (j : Int))] (k := !decide ((j : Int) = b) && (adj ts a (j : Int) && !adj ts b (j : Int))) ?_ (fun h => ?_) (fun h => sxs_nil ?_) ?_)
    · exact TX.to (WB.t (wx_and (tx_neI (eb_v 6) (eb_v 4)) (fun hB => (wx_and (tx_inD hr (EX.bo (ex_tup (ea_cons (ex_v 3) (ea_cons (ex_v 6) ea_nil)))) (eb_v 0)) (fun hB => (wx_and1 (tx_ninD hr (EX.bo (ex_tup (ea_cons (ex_v 4) (ea_cons (ex_v 6) ea_nil)))) (eb_v 0)))))))) (by rw [both_has, both_has])
    · refine sxs_one (sx_append 5 rfl (ex_tup (ea_cons (ex_v 3) (ea_cons (ex_v 6) ea_nil))) (by rw [List.length_map]; first | omega | (rw [List.length_append]; omega)) (fun _ h1 => ps_expr (pe_bm PySem.F.plainAttrs_list PySem.F.slot_list_append PySem.F.type_list_append mt_append (pv 5) (pa_cons h1 pa_nil))) ?_)
      rw [forA, if_pos h, List.map_append]
      rfl
    · rw [forA, if_neg (by rw [h]; decide), List.append_nil]
      rfl
    refine sxs_one (sx_if (k := !decide ((j : Int) = a) && (adj ts (j : Int) b && !adj ts (j : Int) a)) ?_ (fun h => ?_) (fun h => sxs_nil ?_))
    · exact TX.to (WB.t (wx_and (tx_neI (eb_v 6) (eb_v 3)) (fun hB => (wx_and (tx_inD hr (EX.bo (ex_tup (ea_cons (ex_v 6) (ea_cons (ex_v 4) ea_nil)))) (eb_v 0)) (fun hB => (wx_and1 (tx_ninD hr (EX.bo (ex_tup (ea_cons (ex_v 6) (ea_cons (ex_v 3) ea_nil)))) (eb_v 0)))))))) (by rw [both_has, both_has])
    · refine sxs_one (sx_append 5 rfl (ex_tup (ea_cons (ex_v 6) (ea_cons (ex_v 4) ea_nil))) (by rw [List.length_map]; first | omega | (rw [List.length_append]; omega)) (fun _ h1 => ps_expr (pe_bm PySem.F.plainAttrs_list PySem.F.slot_list_append PySem.F.type_list_append mt_append (pv 5) (pa_cons h1 pa_nil))) ?_)
      rw [forU_snoc, forB, if_pos h, List.map_append (l₁ := forU ts a b (List.range j) ++ forA ts a b (j : Int))]
      exact ⟨_, rfl⟩
    · rw [forU_snoc, forB, if_neg (by rw [h]; decide), List.append_nil]
      exact ⟨_, rfl⟩
  · rintro _ ⟨v6, rfl⟩
    rw [Int.toNat_natCast]
    refine sxs_frL 5 rfl ?_
    refine sxs_one (sx_ret (EX.to (d' := .lst ((onceL n ts a b).map dP)) (EO.x (eo_sortedP T.sorted (ex_v 5))) (by rw [forU_once])) ?_)
    exact hp
end
end Lw

end
section
set_option maxHeartbeats 2000000
namespace DL
open PySem PySem.Spec L2 PyProof.Rows

/-- sorted(d), the keys pairs of ints (k says which) -/
def rSortedDT (K : PySem.W.Frag) : List V → Hp → VK → Prop := fun xs H Q => ∃ (d : Addr) (kvs : List (List Key × V)) (k : V → Int × Int), xs = [V.ref d] ∧ Rd H d (.dT kvs) ∧
  (∀ bs, IsKeys H kvs bs → ∀ x ∈ bs.map V.ref, ∃ t, x = V.ref t ∧ H t = some (.tup [.int (k x).1, .int (k x).2])) ∧
  ∀ bs ys p, IsKeys H kvs bs → SrtO.Srtd (ltP k) ys → SrtO.Stb (ltP k) ys (bs.map V.ref) → H p = none → Q (.ref p) (upd H p (.lst ys))
theorem cr_sortedDT {X : Cx} (hc : X.calm = true) : CallR X (.builtin "sorted") (rSortedDT X.K) := by
  intro pins s σ H xs us Q I r h
  obtain ⟨d, kvs, k, rfl, hd, hx, q⟩ := h
  obtain ⟨u, rfl, rx⟩ := r.one
  cases rx
  obtain ⟨z, hs, ks, pr, o, es, ep, ho, hxd, hdt, he, hn⟩ := (show ObjOk X.prog X.w H s.heap d (.dT kvs) from hd.ok I.hok)
  have l1 : es.size = ks.length := size_of_entries he
  have l2 : kvs.length = ks.length := Paired.length pr
  have hx := hx _ (isKeys_of pr)
  have q := fun ys p => q _ ys p (isKeys_of pr)
  refine Calls.call_function_entry PyProof.Rows.kind_sorted PyProof.Rows.plain_sorted PyProof.Rows.entry_sorted (PyProof.Rows.args_sorted1 _) ?_
  unfold Builtin.«sorted»
  refine wpAny_bind (m := checkCount "sorted" 1 1 _) (wpAny_pure ?_)
  refine wpAny_bind (PySem.W.kdu_collect (A := X.A.in1) (kdl_raw hs hxd hdt) (I.ok.hd hc) ho (by omega) fun h' tk acc hk it => ?_)
  have ea : acc.toList = ks.map fun x => Value.ref x.2.1 := by
    have hl : acc.toList.length = ks.length := by rw [Array.length_toList, it.1]; exact l1
    apply List.ext_getElem?
    intro j
    rw [List.getElem?_map]
    cases hj : acc.toList[j]? with
    | none =>
      have h1 := List.getElem?_eq_none_iff.mp hj
      rw [List.getElem?_eq_none (by omega)]
      all_goals rfl
    | some v =>
      obtain ⟨en, hen, hv⟩ := it.2 j v (by rw [← Array.getElem?_toList]; exact hj)
      have qe := entry_at he j
      rw [hen] at qe
      cases hb : ks[j]? with
      | none =>
        rw [hb] at qe
        exact nomatch (show some en = none from qe)
      | some b =>
        rw [hb] at qe
        have e2 : en = entryOfKey (tupleKind (mixKind X.prog X.w)) b := Option.some.inj qe
        rw [hv, e2]
        all_goals rfl
  have eb : acc.toList = (ks.map fun x => x.2.1).map Value.ref := by rw [ea, List.map_map]; all_goals rfl
  generalize hbs : ks.map (fun x => x.2.1) = bs at hx q eb
  have hbl : bs.length = ks.length := by rw [← hbs, List.length_map]
  rw [eb]
  have hzl : (bs.map Value.ref).length ≤ sizeLine := by rw [List.length_map]; omega
  have I1 : Inv X pins σ H { s with heap := h', toks := tk } := I.kept hk
  refine wpAny_bind (wpAny_newList ?_ hzl)
  have hoL : (h'.push (seqObj "list" (bs.map Value.ref).toArray 0)).get? h'.objs.size = some (seqObj "list" (bs.map Value.ref).toArray 0) := Heap.get?_push_size _ rfl
  show wpAny _ _ _ _ _ { s with heap := h'.push (seqObj "list" (bs.map Value.ref).toArray 0), toks := tk }
  have hp : ∀ v ∈ bs.map Value.ref, Srt.IsPair h' v (k (backV v)).1 (k (backV v)).2 := fun v hv => by
    obtain ⟨b, hb, rfl⟩ := List.mem_map.mp hv
    obtain ⟨t, e, ht⟩ := hx (V.ref b) (List.mem_map.mpr ⟨b, hb, rfl⟩)
    cases e
    obtain ⟨_, its2, r2, o, ho, hc, n, hd⟩ := I1.hok _ _ ht
    obtain ⟨u1, u2, rfl, ri, rj⟩ := vals2 r2
    obtain ⟨t1, rfl⟩ := ri
    obtain ⟨t2, rfl⟩ := rj
    exact ⟨b, o, t1, t2, n, rfl, ho, hc, hd⟩
  refine wpAny_bind (wpAny_holding (wpAny_call_entry PyProof.Rows.slot_list_sort ⟨_, hoL, rfl⟩ PyProof.Rows.entry_list_sort
    (SrtO.list_sort_ord (s := { s with heap := h'.push (seqObj "list" (bs.map Value.ref).toArray 0), toks := tk }) (SrtO.swo_lex fun u => k (backV u)) hoL hzl (fun h2 => SrtO.pairs_sortableO (by omega) (fun v hv => (hp v hv).keeps fun b o e _ => Heap.get?_push_of_some _ e) fun o e => ?_) fun out h1 h2 => ⟨_, rfl, ?_⟩) (PyProof.Rows.args_list_sort _)))
  · have e' := e.symm.trans hoL
    cases e'
    intro c
    exact absurd (Value.type.inj c) (by decide)
  · have h3 : ∀ u ∈ out, ∃ a, u = Value.ref a := fun u hu => by
      obtain ⟨b, _, e⟩ := List.mem_map.mp (h2.perm.mem_iff.mp hu)
      exact ⟨b, e.symm⟩
    obtain ⟨e', he'⟩ := PyProof.Rows.sortedHeap_at (vs := bs.map Value.ref) (out := out.toArray) hoL
    have hb2 : SrtO.Stb (ltP k) (out.map backV) (bs.map V.ref) := by
      have z := SrtO.Stb.map (ltP_swo k) backV h2
      rwa [List.map_map] at z
    have hlen : (out.map backV).length ≤ sizeLine := by rw [hb2.len, List.length_map]; omega
    refine wpAny_pure ⟨_, rfl, .ref h'.objs.size, upd H h'.objs.size (.lst (out.map backV)), I1.laid (t' := tk) (fun b u e => ?_) (Nat.le_refl _)
      (show ObjOk X.prog X.w _ _ _ (.lst (out.map backV)) from ⟨hlen, out, e', vals_back h3, he'⟩), rfl, q _ _ (SrtO.srtd_map h1) hb2 (I1.hok.fresh (Nat.le_refl _))⟩
    have hb : b < h'.objs.size := Heap.lt_size e
    rw [PyProof.Rows.sortedHeap_old (Nat.ne_of_lt hb) (by rw [size_push']; exact Nat.lt_succ_of_lt hb)]
    exact Heap.get?_push_of_some _ e
theorem keys_key {K : PySem.W.Frag} {G H : Hp} : ∀ {vs : List (List Key × V)} {ds : List ((Int × Int) × D)} {bs : List Addr}, RepK K G vs ds → IsKeys H vs bs → (bs.map V.ref).map (keyP H) = ds.map (·.1) ∧ ∀ x ∈ bs.map V.ref, ∃ t, x = V.ref t ∧ H t = some (.tup [.int (keyP H x).1, .int (keyP H x).2])
  | _, _, [], .nil, _ => ⟨rfl, fun _ h => nomatch h⟩
  | _, _, b :: bs, .cons (i := i) (j := j) r t, .cons h k => by
    obtain ⟨h1, h2⟩ := keys_key t k
    have hu : H b = some (.tup [.int i, .int j]) := h
    have e := keyP_of (q := (i, j)) hu
    refine ⟨by rw [List.map_cons, List.map_cons, h1, e]; rfl, fun x hx => ?_⟩
    rcases List.mem_cons.mp hx with rfl | hx
    · exact ⟨b, rfl, by rw [e]; exact hu⟩
    · exact h2 x hx
theorem eo_sortedD {X : Cx} {cs : List C} {a : Expr} {pos p : Pos} {kvs : List ((Int × Int) × D)} (hcl : X.calm = true) (hm : X.mg "sorted" = none) (ha : EB X cs a (.dic kvs)) (hg : Gl X "sorted" := by rfl) (hs : Pl a := by intro _ _; rfl) : EO X cs (.Call (.Name "sorted" p) [a] [] pos) ((sortP (kvs.map (·.1))).map dP) := fun He Hb H0 H σ Q s q =>
  wE_of (pe_callB (cr_sortedDT hcl) hg hm (by decide +kernel) pa_w (by decide) (by decide) (hs _ _) rfl) (eab_cons ha eab_nil hs _ _ _ _ _ _ s fun vs H1 H01 g1 r1 => by
    cases r1 with
    | cons r1 r => cases r; cases r1 with
      | dic hl r =>
        refine ⟨_, _, keyP H1, rfl, .inl hl, fun bs hk => (keys_key r hk).2, fun bs ys l hk hsd hst hn => ?_⟩
        obtain ⟨h1, h2⟩ := keys_key r hk
        have g2 := g1.trans (Grow.tups g1.i)
        have e : ys.map (keyP H1) = sortP (kvs.map (·.1)) := sortP_eq (by rw [← h1]; exact hst.perm.map _) (by
          rw [List.pairwise_map]
          refine List.Pairwise.imp (fun {x y} h => ?_) hsd
          have z := SrtO.lexB_no.mp h
          rw [leP_iff]
          omega)
        refine q l _ _ _ (g2.trans (Grow.own g2.i hn)) (g1.h.free hn) (g2.i.free hn) upd_same ?_
        rw [← e]
        exact pairs_rep fun y hy => by
          obtain ⟨t, et, ht⟩ := h2 y (hst.perm.mem_iff.mp hy)
          exact ⟨t, et, tups_at g1.i ht⟩)
end DL

/-! a display with one pair: {(i, j): v} -/
namespace DL
open PySem PySem.Spec L2
section
variable {prog : Program} {w : World} {A : Around} {E : Value → Shared → Prop} {s : Shared}
theorem wpAny_subDict_any {pairs : List (Sem Value × Sem Value)} {Q : Addr → Shared → Prop} (hlen : pairs.length ≤ 15)
    (h : wpAny (model prog w) A (evalPairs pairs) (fun vs s₁ => wpAny (model prog w) A (forIn vs PUnit.unit fun (x : Value × Value) (_ : PUnit) => (do dictSet s.heap.objs.size x.1 x.2; pure (ForInStep.yield PUnit.unit) : Sem (ForInStep PUnit))) (fun _ s2 => Q s.heap.objs.size s2) E s₁) E
      { s with heap := s.heap.push { cls := .type "dict", data := .dict #[] } }) :
    wpAny (model prog w) A (subDict pairs) Q E s := by
  unfold subDict
  refine wpAny_bind (wpAny_alloc ?_)
  refine wpAny_bind (wpAny_holding ?_)
  rw [if_pos hlen]
  refine wpAny_bind (wpAny_mono h (fun vs s₁ h₁ => ?_) fun _ _ e => e)
  refine wpAny_holding ?_
  exact wpAny_bind (wpAny_mono h₁ (fun _ s2 h2 => wpAny_pure (wpAny_pure h2)) fun _ _ e => e)
theorem wpAny_Dict_one {env : Env} {k v : Expr} {pos : Pos} {Q : Value → Shared → Prop}
    (h : wpAny (model prog w) A (evalPairs (pairTrees [some k] [v] env pos)) (fun vs s₁ => wpAny (model prog w) A (forIn vs PUnit.unit fun (x : Value × Value) (_ : PUnit) => (do dictSet s.heap.objs.size x.1 x.2; pure (ForInStep.yield PUnit.unit) : Sem (ForInStep PUnit))) (fun _ s2 => Q (.ref s.heap.objs.size) s2) E s₁) E
      { s with heap := s.heap.push { cls := .type "dict", data := .dict #[] } }) :
    wpAny (model prog w) A (eval (.Dict [some k] [v] pos) env) Q E s := by
  have hn := pairTrees_length [some k] [v] env pos rfl rfl
  have hl : (pairTrees [some k] [v] env pos).length = 1 := hn
  rw [arm_eval_Dict, zip_pairTrees [some k] [v] env pos rfl rfl, dictDisplay_pairs _ (fun e => by rw [e] at hl; cases hl) (by omega)]
  exact wpAny_bind (wpAny_standAt (wpAny_bind (wpAny_subDict_any (Q := fun d s' => wpAny (model prog w) A (pure (Value.ref d)) Q E s') (by omega)
    (wpAny_mono h (fun vs s₁ h₁ => wpAny_mono h₁ (fun _ s2 h2 => wpAny_pure h2) fun _ _ e => e) fun _ _ e => e))))
end
def tDisp1 (tk tv : TE) : TE := fun σ H Q => ∀ p, H p = none → tPairs [(tk, tv)] σ (upd H p (.dT [])) fun ps H2 => ∃ x y, ps = [(x, y)] ∧ H2 p = some (.dT []) ∧ ∃ b k, x = .ref b ∧ H2 b = some (.tup (k.map kV)) ∧ Q (.ref p) (upd H2 p (.dT [(k, y)]))
theorem pe_disp1 {X : Cx} {k v : Expr} {pos : Pos} {tk tv : TE} (hu : X.A.units + 1 < cLine) (hk : PE X k tk) (hv : PE X v tv) : PE X (.Dict [some k] [v] pos) (tDisp1 tk tv) := by
  refine ⟨fun pins s σ H Q I q => ?_⟩
  have hn := I.hok.fresh (Nat.le_refl s.heap.objs.size)
  have I1 := I.laid (a := s.heap.objs.size) (o := .dT []) (h' := s.heap.push { cls := .type "dict", data := .dict #[] }) (t' := s.toks) (fun _ _ q => Heap.get?_push_of_some _ q) (Nat.le_refl _) (dt_empty s.heap I.big)
  refine wpAny_Dict_one ?_
  have hp := pps_cons (pos := pos) hk hv pps_nil
  refine thn (hp.run pins _ σ _ _ I1 (q _ hn)) fun ws s2 ⟨ps, H2, I2, rel, x, y, ep, e, b, k, ex, eb, q2⟩ => ?_
  subst ep ex
  cases rel with
  | @cons _ z _ _ h t =>
    cases t
    obtain ⟨z1, z2⟩ := z
    obtain ⟨h1, h2⟩ := h
    cases (show z1 = Value.ref b from h1)
    obtain ⟨_, hd, xs, rel, dd⟩ := dt_of I2.hok e
    cases rel
    rw [List.forIn_cons]
    refine wpAny_bind (wpAny_bind (wpAny_dictSet_heap (hsz := by show 0 ≤ _; exact Nat.zero_le _) (by show X.A.units < cLine; omega) (key_of I2.hok eb) dd fun h' dd' hs => wpAny_pure ?_))
    dsimp only
    rw [List.forIn_nil]
    refine wpAny_pure ⟨.ref s.heap.objs.size, _, ?_, rfl, q2⟩
    obtain ⟨q, es, ep, hq, h2', h3, h4, _, h5⟩ := dd'
    refine d_write I2 (by rw [e]; exact True.intro) hs ⟨q, hq⟩ ⟨(by show 1 ≤ sizeLine; rw [sizeLine_eq]; omega), hd, _, (KT.put (H := H2) (kvs := []) (xs := []) .nil k eb h2).keeps fun c ys ec => ?_, q, es, ep, hq, h2', h3, h4, h5⟩
    rw [upd_ne (ne_of ec e (fun z => nomatch z))]
    exact ec
theorem ed_one {X : Cx} {cs : List C} {k v : Expr} {pos : Pos} {j : Nat} {a b : Int} {d : D} (hr : Room j X.A) (hk : EX X cs k (.tup [.int a, .int b])) (hv : EX X cs v d) : ED X cs (.Dict [some k] [v] pos) [((a, b), d)] := fun He Hb H0 H σ Q s q =>
  wE_of (pe_disp1 (by have := hr.un; omega) pe_w pe_w) fun p hp => by
    have g0 := Grow.own (H0 := H0) (o := .dT []) s.i hp
    refine hk _ _ _ _ _ _ (s.grow g0) fun x H1 H01 g1 r1 => hv _ _ _ _ _ _ ((s.grow g0).grow g1) fun y H2 H02 g2 r2 => ?_
    obtain ⟨t, rfl, ht⟩ := r1.tup2
    have g3 := g1.trans g2
    have hp0 := s.i.free hp
    have fp : H02 p = none := not_tup g3 hp0 upd_same (fun xs z => by cases z)
    have g := g0.trans g3
    refine ⟨_, _, rfl, g3.h _ _ upd_same, t, [Sum.inl a, Sum.inl b], rfl, g2.h _ _ (g1.i _ _ ht), q p _ _ H02 ⟨g.b, fun c u e => ?_, fun c u e => ?_, g.n⟩ hp fp upd_same (.cons r2 .nil)⟩
    · rw [upd_ne (ne_of_none e fp)]; exact g.i c u e
    · rw [upd_ne (ne_of_none e hp)]; exact g.h c u e
end DL

end
section
set_option maxHeartbeats 2000000
namespace DL
open PySem PySem.Spec L2
/-- xs[b], xs one's own list: what stands in it is shared -/
theorem ex_ixO {X : Cx} {cs : List C} {b : Expr} {ds : List D} {pos p : Pos} {d : D} {i : Int} (k : Nat) {x : Str} (hc : cs[k]? = some (.ol ds)) (hb : EB X cs b (.int i)) (h : atI ds i = some d) (hs : PlainIx b := by intro _ _; rfl) (hN : X.N[k]? = some x := by rfl) (hv : Vis X.env.scope x := by first | exact Or.inl rfl | exact Or.inr (Or.inl rfl) | exact Or.inr (Or.inr rfl))
    (hd : (x == ("__debug__" : Str)) = false := by decide) (hcd : (x == ("__classdict__" : Str)) = false := by decide) : EX X cs (.Subscript (.Name x p) b pos) d := fun He Hb H0 H σ Q s q => by
  obtain ⟨l0, vs, e, h0, hl, r⟩ := s.sl k _ hc
  refine wE_of (pe_ix ix_list (pe_var hN hv hd hcd) pe_w hs) ⟨_, e, ?_⟩
  refine hb _ _ _ _ _ _ s fun y H2 H02 g2 r2 => ?_
  cases r2
  obtain ⟨v, h1, h2⟩ := r.at_ h
  exact ⟨_, _, i, v, rfl, rfl, SqL.of (g2.h _ _ hl), h1, q _ _ _ g2 (h2.mono g2.b)⟩
/-- the slots, told anew -/
theorem sxs_at {X : Cx} {cs : List C} {sts : List Stmt} {F : DE} (cs2 : List C) (e : cs = cs2) (h : SXs X cs2 sts F) : SXs X cs sts F := e ▸ h
theorem sxo_at {X : Cx} {cs : List C} {sts : List Stmt} {F : DE} {post : List D → Prop} (cs2 : List C) (e : cs = cs2) (h : SXo X cs2 sts F post) : SXo X cs sts F post := e ▸ h
end DL

end
section
set_option maxHeartbeats 2000000
namespace DL
section
variable {α : Type} (f : α → List α)
/-- come to, in some number of steps -/
inductive Walk (a : α) : Nat → α → Prop
  | zero : Walk a 0 a
  | succ {n : Nat} {b c : α} : Walk a n b → c ∈ f b → Walk a (n + 1) c
def Reach (a b : α) : Prop := ∃ n, Walk f a n b
theorem Reach.refl (a : α) : Reach f a a := ⟨0, .zero⟩
theorem Reach.step {a b c : α} (h : Reach f a b) (k : c ∈ f b) : Reach f a c := h.elim fun n h => ⟨n + 1, .succ h k⟩
end
section
variable {α : Type} [DecidableEq α] (f : α → List α)
theorem nodup_le : ∀ {l u : List α}, l.Nodup → (∀ x ∈ l, x ∈ u) → l.length ≤ u.length
  | [], _, _, _ => Nat.zero_le _
  | x :: l, u, hn, hs => by
    have hx := hs x (by simp)
    have h1 : ∀ y ∈ l, y ∈ u.erase x := fun y hy => by
      have hne : y ≠ x := fun e => (List.nodup_cons.mp hn).1 (e ▸ hy)
      exact (List.mem_erase_of_ne hne).mpr (hs y (by simp [hy]))
    have h2 := nodup_le (List.nodup_cons.mp hn).2 h1
    have h3 := List.length_erase_of_mem hx
    have h4 : 0 < u.length := List.length_pos_of_mem hx
    rw [List.length_cons]
    omega
theorem nodup_app {l m : List α} (h1 : l.Nodup) (h2 : m.Nodup) (h : ∀ x ∈ m, x ∉ l) : (l ++ m).Nodup := List.nodup_append.mpr ⟨h1, h2, fun a ha b hb e => h b hb (e ▸ ha)⟩

/-! layer by layer, with the one ahead -/
abbrev Kf (st : List (α × Option α)) : List α := st.map (·.1)
def inn (ar : α) (st : List (α × Option α) × List α) (x : α) : List (α × Option α) × List α := if x ∈ Kf st.1 then st else (st.1 ++ [(x, some ar)], st.2 ++ [x])
def inL (ar : α) (st : List (α × Option α) × List α) (l : List α) : List (α × Option α) × List α := l.foldl (inn ar) st
def outL (st : List (α × Option α) × List α) (l : List α) : List (α × Option α) × List α := l.foldl (fun st ar => inL ar st (f ar)) st
theorem inL_snoc {ar : α} {st : List (α × Option α) × List α} {l : List α} {x : α} : inL ar st (l ++ [x]) = inn ar (inL ar st l) x := by unfold inL; rw [List.foldl_append]; rfl
theorem outL_snoc {st : List (α × Option α) × List α} {l : List α} {x : α} : outL f st (l ++ [x]) = inL x (outL f st l) (f x) := by unfold outL; rw [List.foldl_append]; rfl
theorem inL_new {ar : α} : ∀ {l : List α} {st : List (α × Option α) × List α}, (Kf st.1).Nodup → ∃ new : List α, (inL ar st l).1 = st.1 ++ new.map (fun x => (x, some ar)) ∧ (inL ar st l).2 = st.2 ++ new ∧ new.Nodup ∧ (∀ x ∈ new, x ∈ l ∧ x ∉ Kf st.1) ∧ ∀ x ∈ l, x ∈ Kf st.1 ∨ x ∈ new
  | [], st, _ => ⟨[], by simp [inL], by simp [inL], List.nodup_nil, by simp, by simp⟩
  | x :: l, st, hn => by
    show ∃ new : List α, (inL ar (inn ar st x) l).1 = _ ∧ (inL ar (inn ar st x) l).2 = _ ∧ _
    unfold inn
    by_cases h : x ∈ Kf st.1
    · rw [if_pos h]
      obtain ⟨new, h1, h2, h3, h4, h5⟩ := inL_new (ar := ar) (l := l) hn
      refine ⟨new, h1, h2, h3, fun y hy => ⟨List.mem_cons_of_mem _ (h4 y hy).1, (h4 y hy).2⟩, fun y hy => ?_⟩
      rcases List.mem_cons.mp hy with rfl | hy
      · exact .inl h
      · exact h5 y hy
    · rw [if_neg h]
      have hn2 : (Kf (st.1 ++ [(x, some ar)])).Nodup := by
        show (List.map _ _).Nodup
        rw [List.map_append]
        refine nodup_app hn (by simp) fun y hy => ?_
        simp only [List.map_cons, List.map_nil, List.mem_singleton] at hy
        subst hy
        exact h
      obtain ⟨new, h1, h2, h3, h4, h5⟩ := inL_new (ar := ar) (l := l) (st := (st.1 ++ [(x, some ar)], st.2 ++ [x])) hn2
      have hk : Kf (st.1 ++ [(x, some ar)]) = Kf st.1 ++ [x] := by simp
      refine ⟨x :: new, ?_, ?_, ?_, fun y hy => ?_, fun y hy => ?_⟩
      · rw [h1]; simp
      · rw [h2]; simp
      · refine List.nodup_cons.mpr ⟨fun hx => ?_, h3⟩
        refine (h4 x hx).2 ?_
        rw [hk]; simp
      · rcases List.mem_cons.mp hy with rfl | hy
        · exact ⟨by simp, h⟩
        · obtain ⟨z1, z2⟩ := h4 y hy
          rw [hk] at z2
          exact ⟨List.mem_cons_of_mem _ z1, fun z => z2 (List.mem_append_left _ z)⟩
      · rcases List.mem_cons.mp hy with rfl | hy
        · exact .inr (by simp)
        · rcases h5 y hy with z | z
          · rw [hk] at z
            rcases List.mem_append.mp z with z | z
            · exact .inl z
            · rw [List.mem_singleton.mp z]; exact .inr (by simp)
          · exact .inr (List.mem_cons_of_mem _ z)
theorem Kf_app {l : List (α × Option α)} {new : List α} {ar : α} : Kf (l ++ new.map fun x => (x, some ar)) = Kf l ++ new := by
  show List.map _ _ = _
  rw [List.map_append, List.map_map]
  congr 1
  exact List.map_id _
theorem outL_new : ∀ {l : List α} {st : List (α × Option α) × List α}, (Kf st.1).Nodup → (Kf (outL f st l).1).Nodup ∧ ∃ new : List (α × α), (outL f st l).1 = st.1 ++ new.map (fun p => (p.1, some p.2)) ∧ (outL f st l).2 = st.2 ++ new.map (·.1) ∧ (∀ p ∈ new, p.2 ∈ l ∧ p.1 ∈ f p.2) ∧ ∀ ar ∈ l, ∀ x ∈ f ar, x ∈ Kf (outL f st l).1
  | [], st, hn => ⟨hn, [], by simp [outL], by simp [outL], by simp, by simp⟩
  | ar :: l, st, hn => by
    show (Kf (outL f (inL ar st (f ar)) l).1).Nodup ∧ ∃ new : List (α × α), (outL f (inL ar st (f ar)) l).1 = _ ∧ (outL f (inL ar st (f ar)) l).2 = _ ∧ _ ∧ ∀ a ∈ ar :: l, ∀ x ∈ f a, x ∈ Kf (outL f (inL ar st (f ar)) l).1
    obtain ⟨n1, a1, a2, a3, a4, a5⟩ := inL_new (ar := ar) (l := f ar) hn
    have hn2 : (Kf (inL ar st (f ar)).1).Nodup := by
      rw [a1, Kf_app]
      exact nodup_app hn a3 fun x hx => (a4 x hx).2
    obtain ⟨q1, n2, b1, b2, b3, b4⟩ := outL_new (l := l) hn2
    refine ⟨q1, n1.map (fun x => (x, ar)) ++ n2, ?_, ?_, fun p hp => ?_, fun a ha x hx => ?_⟩
    · rw [b1, a1]; simp
    · rw [b2, a2]
      simp [List.map_append]
      exact (List.map_id _).symm
    · rcases List.mem_append.mp hp with hp | hp
      · obtain ⟨x, hx, rfl⟩ := List.mem_map.mp hp
        exact ⟨by simp, (a4 x hx).1⟩
      · obtain ⟨z1, z2⟩ := b3 p hp
        exact ⟨List.mem_cons_of_mem _ z1, z2⟩
    · rcases List.mem_cons.mp ha with rfl | ha
      · rw [b1]
        show x ∈ List.map _ _
        rw [List.map_append, a1]
        refine List.mem_append_left _ ?_
        have : x ∈ Kf st.1 ++ n1 := List.mem_append.mpr (a5 x hx)
        rw [← Kf_app (ar := a)] at this
        exact this
      · exact b4 a ha x hx
structure BI (a : α) (ks : List (α × Option α)) (ly : List α) : Prop where
  nd : (Kf ks).Nodup
  st : a ∈ Kf ks
  re : ∀ x ∈ Kf ks, Reach f a x
  sub : ∀ x ∈ ly, x ∈ Kf ks
  cl : ∀ x ∈ Kf ks, x ∈ ly ∨ ∀ y ∈ f x, y ∈ Kf ks
theorem bi_start (a : α) : BI f a [(a, none)] [a] := ⟨by simp, by simp, fun x hx => by simp at hx; subst hx; exact .refl f _, by simp, fun x hx => .inl hx⟩
theorem bi_step {a : α} {ks : List (α × Option α)} {ly : List α} (h : BI f a ks ly) : BI f a (outL f (ks, []) ly).1 (outL f (ks, []) ly).2 := by
  obtain ⟨q1, new, b1, b2, b3, b4⟩ := outL_new f (l := ly) (st := (ks, [])) h.nd
  have hk : Kf (outL f (ks, []) ly).1 = Kf ks ++ new.map (·.1) := by
    rw [b1]
    show List.map _ _ = _
    rw [List.map_append, List.map_map]
    rfl
  rw [List.nil_append] at b2
  refine ⟨q1, by rw [hk]; exact List.mem_append_left _ h.st, fun x hx => ?_, fun x hx => ?_, fun x hx => ?_⟩
  · rw [hk] at hx
    rcases List.mem_append.mp hx with hx | hx
    · exact h.re x hx
    · obtain ⟨p, hp, rfl⟩ := List.mem_map.mp hx
      obtain ⟨z1, z2⟩ := b3 p hp
      exact (h.re _ (h.sub _ z1)).step f z2
  · rw [b2] at hx
    rw [hk]
    exact List.mem_append_right _ hx
  · rw [b2]
    rw [hk] at hx
    rcases List.mem_append.mp hx with hx | hx
    · rcases h.cl x hx with z | z
      · exact .inr (b4 x z)
      · exact .inr fun y hy => by rw [hk]; exact List.mem_append_left _ (z y hy)
    · exact .inl hx
theorem bi_grow {ks : List (α × Option α)} {ly : List α} (h : (Kf ks).Nodup) : (outL f (ks, []) ly).1.length = ks.length + (outL f (ks, []) ly).2.length := by
  obtain ⟨q1, new, b1, b2, b3, b4⟩ := outL_new f (l := ly) (st := (ks, [])) h
  rw [b1, b2]
  simp
theorem bi_end {a : α} {ks : List (α × Option α)} (h : BI f a ks []) (x : α) : x ∈ Kf ks ↔ Reach f a x := by
  refine ⟨h.re x, fun hr => ?_⟩
  obtain ⟨n, hw⟩ := hr
  induction hw with
  | zero => exact h.st
  | succ _ k ih =>
    rcases h.cl _ ih with z | z
    · cases z
    · exact z _ k
theorem bi_len {a : α} {ks : List (α × Option α)} {ly u : List α} (h : BI f a ks ly) (hu : ∀ x, Reach f a x → x ∈ u) : ks.length ≤ u.length := by
  have := nodup_le h.nd fun x hx => hu x (h.re x hx)
  simpa using this
/-- layer by layer, i times -/
def itL (a : α) : Nat → List (α × Option α) × List α
  | 0 => ([(a, none)], [a])
  | i + 1 => outL f ((itL a i).1, []) (itL a i).2
theorem itL_bi (a : α) : ∀ i, BI f a (itL f a i).1 (itL f a i).2
  | 0 => bi_start f a
  | i + 1 => bi_step f (itL_bi a i)
theorem inL_len {ar : α} {l : List α} {st : List (α × Option α) × List α} : (inL ar st l).1.length ≤ st.1.length + l.length ∧ (inL ar st l).2.length ≤ st.2.length + l.length := by
  induction l generalizing st with
  | nil => exact ⟨Nat.le_refl _, Nat.le_refl _⟩
  | cons x l ih =>
    have := ih (st := inn ar st x)
    show (inL ar (inn ar st x) l).1.length ≤ _ ∧ (inL ar (inn ar st x) l).2.length ≤ _
    have h1 : (inn ar st x).1.length ≤ st.1.length + 1 ∧ (inn ar st x).2.length ≤ st.2.length + 1 := by unfold inn; split <;> simp
    rw [List.length_cons]
    omega

theorem inL_le {ar : α} {l : List α} {st : List (α × Option α) × List α} : st.1.length ≤ (inL ar st l).1.length ∧ st.2.length ≤ (inL ar st l).2.length := by
  induction l generalizing st with
  | nil => exact ⟨Nat.le_refl _, Nat.le_refl _⟩
  | cons x l ih =>
    have := ih (st := inn ar st x)
    show st.1.length ≤ (inL ar (inn ar st x) l).1.length ∧ st.2.length ≤ (inL ar (inn ar st x) l).2.length
    have h1 : st.1.length ≤ (inn ar st x).1.length ∧ st.2.length ≤ (inn ar st x).2.length := by unfold inn; split <;> simp
    omega
theorem outL_le {l : List α} {st : List (α × Option α) × List α} : st.1.length ≤ (outL f st l).1.length ∧ st.2.length ≤ (outL f st l).2.length := by
  induction l generalizing st with
  | nil => exact ⟨Nat.le_refl _, Nat.le_refl _⟩
  | cons x l ih =>
    have := ih (st := inL x st (f x))
    have h1 := inL_le (ar := x) (l := f x) (st := st)
    show st.1.length ≤ (outL f (inL x st (f x)) l).1.length ∧ st.2.length ≤ (outL f (inL x st (f x)) l).2.length
    omega
theorem outL_take {l : List α} {st : List (α × Option α) × List α} (j : Nat) : (outL f st (l.take j)).1.length ≤ (outL f st l).1.length ∧ (outL f st (l.take j)).2.length ≤ (outL f st l).2.length := by
  have e : outL f st l = outL f (outL f st (l.take j)) (l.drop j) := by
    have h := congrArg (outL f st) (List.take_append_drop j l)
    rw [← h]
    unfold outL
    rw [List.foldl_append]
  rw [e]
  exact outL_le f
theorem itL_const {a : α} {i : Nat} (h : (itL f a i).2 = []) : ∀ k, itL f a (i + k) = itL f a i
  | 0 => rfl
  | k + 1 => by
    show outL f ((itL f a (i + k)).1, []) (itL f a (i + k)).2 = _
    rw [itL_const h k, h]
    exact Prod.ext rfl h.symm
theorem itL_same {a : α} {i j : Nat} (hi : (itL f a i).2 = []) (hj : (itL f a j).2 = []) : itL f a i = itL f a j := by
  rcases Nat.le_total i j with h | h
  · have := itL_const f hi (j - i)
    rw [show i + (j - i) = j by omega] at this
    exact this.symm
  · have := itL_const f hj (i - j)
    rw [show j + (i - j) = i by omega] at this
    exact this
theorem itL_stop {a : α} {u : List α} (hu : ∀ x, Reach f a x → x ∈ u) {m : Nat} (hm : u.length ≤ m) : (itL f a m).2 = [] := by
  cases e : (itL f a m).2 with
  | nil => rfl
  | cons y r =>
    exfalso
    have hne : ∀ j, j ≤ m → (itL f a j).2 ≠ [] := fun j hj z => by
      have := itL_const f z (m - j)
      rw [show j + (m - j) = m by omega] at this
      rw [this, z] at e
      cases e
    have hl : ∀ j, j ≤ m → j + 1 ≤ (itL f a j).1.length := fun j => by
      induction j with
      | zero => intro _; exact Nat.le_refl _
      | succ j ih =>
        intro hj
        have h1 := ih (by omega)
        have h2 := bi_grow f (ly := (itL f a j).2) (itL_bi f a j).nd
        have h3 : 0 < (itL f a (j + 1)).2.length := List.length_pos_iff.mpr (hne (j + 1) hj)
        show j + 1 + 1 ≤ (outL f ((itL f a j).1, []) (itL f a j).2).1.length
        have h4 : (itL f a (j + 1)).2 = (outL f ((itL f a j).1, []) (itL f a j).2).2 := rfl
        rw [h4] at h3
        omega
    have h1 := hl m (Nat.le_refl _)
    have h2 := bi_len f (itL_bi f a m) hu
    omega

/-! the law's walk, with how far -/
abbrev Kn (ks : List (α × Nat)) : List α := ks.map (·.1)
def lin (d : Nat) (ks : List (α × Nat)) (x : α) : List (α × Nat) := if x ∈ Kn ks then ks else ks ++ [(x, d + 1)]
def linL (d : Nat) (ks : List (α × Nat)) (l : List α) : List (α × Nat) := l.foldl (lin d) ks
theorem linL_snoc {d : Nat} {ks : List (α × Nat)} {l : List α} {x : α} : linL d ks (l ++ [x]) = lin d (linL d ks l) x := by unfold linL; rw [List.foldl_append]; rfl
theorem linL_new {d : Nat} : ∀ {l : List α} {ks : List (α × Nat)}, (Kn ks).Nodup → ∃ new : List α, linL d ks l = ks ++ new.map (fun x => (x, d + 1)) ∧ new.Nodup ∧ (∀ x ∈ new, x ∈ l ∧ x ∉ Kn ks) ∧ ∀ x ∈ l, x ∈ Kn ks ∨ x ∈ new
  | [], ks, _ => ⟨[], by simp [linL], List.nodup_nil, by simp, by simp⟩
  | x :: l, ks, hn => by
    show ∃ new : List α, linL d (lin d ks x) l = _ ∧ _
    unfold lin
    by_cases h : x ∈ Kn ks
    · rw [if_pos h]
      obtain ⟨new, h1, h3, h4, h5⟩ := linL_new (d := d) (l := l) hn
      refine ⟨new, h1, h3, fun y hy => ⟨List.mem_cons_of_mem _ (h4 y hy).1, (h4 y hy).2⟩, fun y hy => ?_⟩
      rcases List.mem_cons.mp hy with rfl | hy
      · exact .inl h
      · exact h5 y hy
    · rw [if_neg h]
      have hk : Kn (ks ++ [(x, d + 1)]) = Kn ks ++ [x] := by simp
      have hn2 : (Kn (ks ++ [(x, d + 1)])).Nodup := by
        rw [hk]
        refine nodup_app hn (by simp) fun y hy => ?_
        rw [List.mem_singleton.mp hy]
        exact h
      obtain ⟨new, h1, h3, h4, h5⟩ := linL_new (d := d) (l := l) hn2
      refine ⟨x :: new, by rw [h1]; simp, List.nodup_cons.mpr ⟨fun hx => (h4 x hx).2 (by rw [hk]; simp), h3⟩, fun y hy => ?_, fun y hy => ?_⟩
      · rcases List.mem_cons.mp hy with rfl | hy
        · exact ⟨by simp, h⟩
        · obtain ⟨z1, z2⟩ := h4 y hy
          rw [hk] at z2
          exact ⟨List.mem_cons_of_mem _ z1, fun z => z2 (List.mem_append_left _ z)⟩
      · rcases List.mem_cons.mp hy with rfl | hy
        · exact .inr (by simp)
        · rcases h5 y hy with z | z
          · rw [hk] at z
            rcases List.mem_append.mp z with z | z
            · exact .inl z
            · rw [List.mem_singleton.mp z]; exact .inr (by simp)
          · exact .inr (List.mem_cons_of_mem _ z)
structure LI (a : α) (ks : List (α × Nat)) (i : Nat) : Prop where
  nd : (Kn ks).Nodup
  st : (a, 0) ∈ ks
  wk : ∀ p ∈ ks, Walk f a p.2 p.1
  up : ks.Pairwise fun p q => p.2 ≤ q.2
  cl : ∀ j p, j < i → ks[j]? = some p → ∀ y ∈ f p.1, ∃ q ∈ ks, q.1 = y ∧ q.2 ≤ p.2 + 1
  bd : ∀ p ∈ ks, ∀ q, ks[i]? = some q → p.2 ≤ q.2 + 1
theorem li_start (a : α) : LI f a [(a, 0)] 0 := ⟨by simp, by simp, fun p hp => by simp at hp; subst hp; exact .zero, by simp, fun j p h => by omega, fun p hp q hq => by simp at hp; subst hp; exact Nat.zero_le _⟩
theorem li_step {a : α} {ks : List (α × Nat)} {i : Nat} {x : α} {d : Nat} (h : LI f a ks i) (hx : ks[i]? = some (x, d)) : LI f a (linL d ks (f x)) (i + 1) := by
  obtain ⟨new, e, n1, n2, n3⟩ := linL_new (d := d) (l := f x) h.nd
  have hxm := List.mem_of_getElem? hx
  have hi := (List.getElem?_eq_some_iff.mp hx).1
  have hb : ∀ p ∈ ks, p.2 ≤ d + 1 := fun p hp => h.bd p hp _ hx
  have hk : Kn (ks ++ new.map fun x => (x, d + 1)) = Kn ks ++ new := by
    show List.map _ _ = _
    rw [List.map_append, List.map_map]
    congr 1
    exact List.map_id _
  have hall : ∀ p ∈ linL d ks (f x), p.2 ≤ d + 1 := fun p hp => by
    rw [e] at hp
    rcases List.mem_append.mp hp with hp | hp
    · exact hb p hp
    · obtain ⟨y, _, rfl⟩ := List.mem_map.mp hp
      exact Nat.le_refl _
  have hup : (linL d ks (f x)).Pairwise fun p q => p.2 ≤ q.2 := by
    rw [e, List.pairwise_append]
    refine ⟨h.up, ?_, fun p hp q hq => ?_⟩
    · rw [List.pairwise_map]
      exact List.pairwise_of_forall fun _ _ => Nat.le_refl _
    · obtain ⟨y, _, rfl⟩ := List.mem_map.mp hq
      exact hb p hp
  refine ⟨?_, ?_, ?_, hup, ?_, ?_⟩
  · rw [e, hk]
    exact nodup_app h.nd n1 fun y hy => (n2 y hy).2
  · rw [e]; exact List.mem_append_left _ h.st
  · intro p hp
    rw [e] at hp
    rcases List.mem_append.mp hp with hp | hp
    · exact h.wk p hp
    · obtain ⟨y, hy, rfl⟩ := List.mem_map.mp hp
      exact .succ (h.wk _ hxm) (n2 y hy).1
  · intro j p hj hp y hy
    by_cases hji : j < i
    · rw [e, List.getElem?_append_left (by omega)] at hp
      obtain ⟨q, hq, q1, q2⟩ := h.cl j p hji hp y hy
      exact ⟨q, by rw [e]; exact List.mem_append_left _ hq, q1, q2⟩
    · obtain rfl : j = i := by omega
      rw [e, List.getElem?_append_left (by omega), hx] at hp
      cases hp
      rcases n3 y hy with z | z
      · obtain ⟨q, hq, q1⟩ := List.mem_map.mp z
        exact ⟨q, by rw [e]; exact List.mem_append_left _ hq, q1, hb q hq⟩
      · exact ⟨(y, d + 1), by rw [e]; exact List.mem_append_right _ (List.mem_map.mpr ⟨y, z, rfl⟩), rfl, Nat.le_refl _⟩
  · intro p hp q hq
    have h1 := hall p hp
    have h2 : d ≤ q.2 := by
      have hi2 : (linL d ks (f x))[i]? = some (x, d) := by rw [e, List.getElem?_append_left (by omega), hx]
      obtain ⟨a1, a2⟩ := List.getElem?_eq_some_iff.mp hi2
      obtain ⟨b1, b2⟩ := List.getElem?_eq_some_iff.mp hq
      have := (List.pairwise_iff_getElem.mp hup) i (i + 1) a1 b1 (by omega)
      rw [a2, b2] at this
      exact this
    omega
theorem li_end {a : α} {ks : List (α × Nat)} {i : Nat} (h : LI f a ks i) (hi : ks.length ≤ i) {n : Nat} {x : α} (w : Walk f a n x) : ∃ d, (x, d) ∈ ks ∧ d ≤ n := by
  induction w with
  | zero => exact ⟨0, h.st, Nat.le_refl _⟩
  | @succ n b c _ hc ih =>
    obtain ⟨d, hm, hd⟩ := ih
    obtain ⟨j, hj, e⟩ := List.mem_iff_getElem.mp hm
    obtain ⟨q, hq, q1, q2⟩ := h.cl j (b, d) (by omega) (by rw [List.getElem?_eq_getElem hj, e]) c hc
    exact ⟨q.2, by rw [← q1]; exact hq, by simp at q2; omega⟩
theorem li_keys {a : α} {ks : List (α × Nat)} {i : Nat} (h : LI f a ks i) (hi : ks.length ≤ i) (x : α) : x ∈ Kn ks ↔ Reach f a x := by
  constructor
  · intro hx
    obtain ⟨p, hp, rfl⟩ := List.mem_map.mp hx
    exact ⟨_, h.wk p hp⟩
  · rintro ⟨n, w⟩
    obtain ⟨d, hm, _⟩ := li_end f h hi w
    exact List.mem_map.mpr ⟨_, hm, rfl⟩
theorem li_len {a : α} {ks : List (α × Nat)} {i : Nat} {u : List α} (h : LI f a ks i) (hu : ∀ x, Reach f a x → x ∈ u) : ks.length ≤ u.length := by
  have := nodup_le h.nd fun x hx => by
    obtain ⟨p, hp, rfl⟩ := List.mem_map.mp hx
    exact hu _ ⟨_, h.wk p hp⟩
  simpa using this
theorem linL_len {d : Nat} {ks : List (α × Nat)} {l : List α} : (linL d ks l).length ≤ ks.length + l.length := by
  induction l generalizing ks with
  | nil => exact Nat.le_refl _
  | cons x l ih =>
    have := ih (ks := lin d ks x)
    show (linL d (lin d ks x) l).length ≤ _
    have h1 : (lin d ks x).length ≤ ks.length + 1 := by unfold lin; split <;> simp
    rw [List.length_cons]
    omega
/-- the law's walk, i times -/
def dsL (a : α) : Nat → List (α × Nat)
  | 0 => [(a, 0)]
  | i + 1 => match (dsL a i)[i]? with
    | some p => linL p.2 (dsL a i) (f p.1)
    | none => dsL a i
theorem dsL_some {a : α} {i : Nat} {p : α × Nat} (h : (dsL f a i)[i]? = some p) : dsL f a (i + 1) = linL p.2 (dsL f a i) (f p.1) := by
  show (match (dsL f a i)[i]? with | some p => _ | none => _) = _
  rw [h]
theorem dsL_none {a : α} {i : Nat} (h : (dsL f a i).length ≤ i) : dsL f a (i + 1) = dsL f a i := by
  show (match (dsL f a i)[i]? with | some p => _ | none => _) = _
  rw [List.getElem?_eq_none h]
theorem dsL_li (a : α) : ∀ i, LI f a (dsL f a i) i
  | 0 => li_start f a
  | i + 1 => by
    have h := dsL_li a i
    cases e : (dsL f a i)[i]? with
    | some p => rw [dsL_some f e]; exact li_step f h e
    | none =>
      have hl := List.getElem?_eq_none_iff.mp e
      rw [dsL_none f hl]
      exact ⟨h.nd, h.st, h.wk, h.up, fun j p hj hp => h.cl j p (by have := (List.getElem?_eq_some_iff.mp hp).1; omega) hp, fun p hp q hq => by rw [List.getElem?_eq_none (by omega)] at hq; cases hq⟩
theorem dsL_const {a : α} {i : Nat} (h : (dsL f a i).length ≤ i) : ∀ k, dsL f a (i + k) = dsL f a i
  | 0 => rfl
  | k + 1 => by
    have ih := dsL_const h k
    show dsL f a ((i + k) + 1) = _
    rw [dsL_none f (by rw [ih]; omega), ih]
theorem dsL_same {a : α} {i j : Nat} (hi : (dsL f a i).length ≤ i) (hj : (dsL f a j).length ≤ j) : dsL f a i = dsL f a j := by
  rcases Nat.le_total i j with h | h
  · have := dsL_const f hi (j - i)
    rw [show i + (j - i) = j by omega] at this
    exact this.symm
  · have := dsL_const f hj (i - j)
    rw [show j + (i - j) = i by omega] at this
    exact this
end
end DL

end
section
set_option maxHeartbeats 2000000
namespace DL
open PySem PySem.Spec L2
section
variable {β : Type} (g : β → D)
def dM (ks : List ((Int × Int) × β)) : List ((Int × Int) × D) := ks.map fun p => (p.1, g p.2)
theorem dM_len {ks : List ((Int × Int) × β)} : (dM g ks).length = ks.length := by unfold dM; rw [List.length_map]
theorem dM_keys {ks : List ((Int × Int) × β)} : (dM g ks).map (·.1) = ks.map (·.1) := by unfold dM; rw [List.map_map]; rfl
theorem lk_dM_has {k : Int × Int} : ∀ {ks : List ((Int × Int) × β)}, (lk (dM g ks) k).isSome = decide (k ∈ ks.map (·.1))
  | [] => rfl
  | p :: ks => by
    have ih := lk_dM_has (k := k) (ks := ks)
    unfold dM lk at ih ⊢
    rw [List.map_cons, List.find?_cons]
    by_cases h : p.1 = k
    · simp [h]
    · have h2 : ¬ k = p.1 := fun e => h e.symm
      simp only [h, decide_false]
      rw [ih]
      simp [h2]
theorem lk_dM {k : Int × Int} {b : β} : ∀ {ks : List ((Int × Int) × β)}, (ks.map (·.1)).Nodup → (k, b) ∈ ks → lk (dM g ks) k = some (g b)
  | p :: ks, hn, hm => by
    unfold dM lk
    rw [List.map_cons, List.find?_cons]
    rw [List.map_cons, List.nodup_cons] at hn
    rcases List.mem_cons.mp hm with h | h
    · rw [← h]; simp
    · have h2 : ¬ p.1 = k := fun e => hn.1 (by rw [e]; exact List.mem_map.mpr ⟨_, h, rfl⟩)
      simp only [h2, decide_false]
      exact lk_dM hn.2 h
theorem put_dM {k : Int × Int} {b : β} {ks : List ((Int × Int) × β)} (h : k ∉ ks.map (·.1)) : put (dM g ks) k (g b) = dM g (ks ++ [(k, b)]) := by
  unfold put
  rw [if_neg]
  · unfold dM; rw [List.map_append]; rfl
  · intro z
    obtain ⟨p, hp, e⟩ := List.any_eq_true.mp z
    unfold dM at hp
    obtain ⟨q, hq, rfl⟩ := List.mem_map.mp hp
    exact h (List.mem_map.mpr ⟨q, hq, of_decide_eq_true e⟩)
end
def oD : Option (Int × Int) → D
  | none => .non
  | some p => dP p
abbrev nD : Nat → D := fun d => .int (d : Int)
/-- forcing at once, a step -/
abbrev stp (n : Nat) (ts : List (Int × Int)) : Int × Int → List (Int × Int) := fun p => onceL n ts p.1 p.2
def allP (n : Nat) : List (Int × Int) := (pts n).flatMap fun a => (pts n).map fun b => (a, b)
theorem pts_len (n : Nat) : (pts n).length = n := by unfold pts; rw [List.length_map, List.length_range]
theorem allP_mem {n : Nat} {p : Int × Int} : p ∈ allP n ↔ (0 ≤ p.1 ∧ p.1 < n) ∧ (0 ≤ p.2 ∧ p.2 < n) := by
  unfold allP
  rw [List.mem_flatMap]
  constructor
  · rintro ⟨a, ha, h⟩
    obtain ⟨b, hb, rfl⟩ := List.mem_map.mp h
    exact ⟨pts_mem.mp ha, pts_mem.mp hb⟩
  · rintro ⟨h1, h2⟩
    exact ⟨p.1, pts_mem.mpr h1, List.mem_map.mpr ⟨p.2, pts_mem.mpr h2, rfl⟩⟩
theorem allP_len (n : Nat) : (allP n).length ≤ n * n := by
  have h := len_flat (f := fun a : Int => (pts n).map fun b => (a, b)) (B := n) (l := pts n) fun a _ => by rw [List.length_map, pts_len]; exact Nat.le_refl _
  rwa [pts_len] at h
theorem reach_adj {n : Nat} {ts : List (Int × Int)} {a b : Int × Int} (h : adj ts a.1 a.2 = true) (r : Reach (stp n ts) a b) : adj ts b.1 b.2 = true := by
  obtain ⟨k, w⟩ := r
  cases w with
  | zero => exact h
  | succ _ hc => exact once_adj hc
theorem reach_all {n : Nat} {ts : List (Int × Int)} (ht : Tied n ts) {a b : Int × Int} (h : adj ts a.1 a.2 = true) (r : Reach (stp n ts) a b) : b ∈ allP n := by
  obtain ⟨h1, h2⟩ := adj_pt ht (reach_adj h r)
  exact allP_mem.mpr ⟨isPt_iff.mp h1, isPt_iff.mp h2⟩
theorem walk_sym {n : Nat} {ts : List (Int × Int)} (ht : Tied n ts) {a : Int × Int} (h : adj ts a.1 a.2 = true) : ∀ {k : Nat} {b : Int × Int}, Walk (stp n ts) a k b → Walk (stp n ts) b k a := by
  have pre : ∀ {k : Nat} {x b c : Int × Int}, b ∈ stp n ts c → Walk (stp n ts) b k x → Walk (stp n ts) c (k + 1) x := by
    intro k x b c hb w
    induction w with
    | zero => exact .succ .zero hb
    | succ _ k ih => exact .succ ih k
  intro k b w
  induction w with
  | zero => exact .zero
  | @succ m b c w hc ih => exact pre (once_sym (x := c.1) (y := c.2) ht (reach_adj h ⟨_, w⟩) hc) ih
theorem reach_sym {n : Nat} {ts : List (Int × Int)} (ht : Tied n ts) {a b : Int × Int} (h : adj ts a.1 a.2 = true) (r : Reach (stp n ts) a b) : Reach (stp n ts) b a := r.elim fun k w => ⟨k, walk_sym ht h w⟩
theorem reach_trans {α : Type} {f : α → List α} {a b c : α} (h1 : Reach f a b) (h2 : Reach f b c) : Reach f a c := by
  obtain ⟨k, w⟩ := h2
  induction w with
  | zero => exact h1
  | succ _ k ih => exact ih.step f k
open Classical in
/-- all that can be come to, rising -/
@[irreducible] noncomputable def ledL (n : Nat) (ts : List (Int × Int)) (a : Int × Int) : List (Int × Int) := sortP ((allP n).filter fun p => decide (Reach (stp n ts) a p))
theorem up_flat {α β : Type} {R : β → β → Prop} {f : α → List β} {S : α → α → Prop} (h1 : ∀ x, (f x).Pairwise R) (h2 : ∀ x y, S x y → ∀ a ∈ f x, ∀ b ∈ f y, R a b) : ∀ {l : List α}, l.Pairwise S → (l.flatMap f).Pairwise R
  | [], _ => .nil
  | x :: l, h => by
    rw [List.flatMap_cons, List.pairwise_append]
    rw [List.pairwise_cons] at h
    refine ⟨h1 x, up_flat h1 h2 h.2, fun a ha b hb => ?_⟩
    obtain ⟨y, hy, hb⟩ := List.mem_flatMap.mp hb
    exact h2 x y (h.1 y hy) a ha b hb
theorem allP_nd (n : Nat) : (allP n).Nodup := by
  refine up_flat (S := fun x y => x < y) (fun x => ?_) (fun x y h a ha b hb => ?_) (pts_up n)
  · rw [List.pairwise_map]
    exact (pts_up n).imp fun h e => by cases e; omega
  · obtain ⟨a', _, rfl⟩ := List.mem_map.mp ha
    obtain ⟨b', _, rfl⟩ := List.mem_map.mp hb
    intro e
    cases e
    omega
open Classical in
theorem led_perm {n : Nat} {ts : List (Int × Int)} (ht : Tied n ts) {a : Int × Int} (h : adj ts a.1 a.2 = true) {l : List (Int × Int)} (hn : l.Nodup) (hm : ∀ x, x ∈ l ↔ Reach (stp n ts) a x) : sortP l = ledL n ts a := by
  unfold ledL
  refine sortP_congr ((List.perm_ext_iff_of_nodup hn ((allP_nd n).filter _)).mpr fun x => ?_)
  rw [hm, List.mem_filter, decide_eq_true_iff]
  exact ⟨fun r => ⟨reach_all ht h r, r⟩, fun z => z.2⟩
open Classical in
theorem led_mem {n : Nat} {ts : List (Int × Int)} (ht : Tied n ts) {a : Int × Int} (h : adj ts a.1 a.2 = true) {x : Int × Int} : x ∈ ledL n ts a ↔ Reach (stp n ts) a x := by
  unfold ledL
  rw [(sortP_perm _).mem_iff, List.mem_filter, decide_eq_true_iff]
  exact ⟨fun z => z.2, fun r => ⟨reach_all ht h r, r⟩⟩
theorem led_len {n : Nat} {ts : List (Int × Int)} {a : Int × Int} : (ledL n ts a).length ≤ n * n := by
  unfold ledL
  rw [(sortP_perm _).length_eq]
  exact Nat.le_trans (List.length_filter_le _ _) (allP_len n)
open Classical in
theorem led_nd {n : Nat} {ts : List (Int × Int)} {a : Int × Int} : (ledL n ts a).Nodup := by
  unfold ledL
  exact (sortP_perm _).nodup_iff.mpr ((allP_nd n).filter _)
/-- an equal class has an equal list -/
theorem led_same {n : Nat} {ts : List (Int × Int)} (ht : Tied n ts) {a b : Int × Int} (h : adj ts a.1 a.2 = true) (hb : b ∈ ledL n ts a) : ledL n ts b = ledL n ts a := by
  have r := (led_mem ht h).mp hb
  have hb2 := reach_adj h r
  have z : sortP (ledL n ts b) = ledL n ts a := led_perm ht h led_nd fun x => by
    rw [led_mem ht hb2]
    exact ⟨fun q => reach_trans r q, fun q => reach_trans (reach_sym ht h r) q⟩
  rw [← z]
  refine sortP_eq (.refl _) ?_
  unfold ledL
  exact sortP_up _
/-! turned about -/
theorem once_turn {n : Nat} {ts : List (Int × Int)} {a b x y : Int} (h : (x, y) ∈ onceL n ts a b) : (y, x) ∈ onceL n ts b a := by
  rw [once_mem] at h ⊢
  rcases h with h | h
  · obtain ⟨e, h1, h2, h3, h4⟩ := away_mem.mp h
    exact .inr (toward_mem.mpr ⟨e, h1, h2, h3, h4⟩)
  · obtain ⟨e, h1, h2, h3, h4⟩ := toward_mem.mp h
    exact .inl (away_mem.mpr ⟨e, h1, h2, h3, h4⟩)
theorem walk_turn {n : Nat} {ts : List (Int × Int)} {a b : Int × Int} {k : Nat} (w : Walk (stp n ts) a k b) : Walk (stp n ts) (sw a) k (sw b) := by
  induction w with
  | zero => exact .zero
  | succ _ k ih => exact .succ ih (once_turn k)
theorem led_turn {n : Nat} {ts : List (Int × Int)} (ht : Tied n ts) {a : Int × Int} (h : adj ts a.1 a.2 = true) : sortP ((ledL n ts a).map sw) = ledL n ts (sw a) := by
  have h2 : adj ts (sw a).1 (sw a).2 = true := by show adj ts a.2 a.1 = true; rw [adj_sym]; exact h
  refine led_perm ht h2 ?_ fun x => ?_
  · refine List.pairwise_map.mpr (led_nd.imp fun h e => h ?_)
    have := congrArg sw e
    exact this
  · rw [List.mem_map]
    constructor
    · rintro ⟨y, hy, rfl⟩
      obtain ⟨k, w⟩ := (led_mem ht h).mp hy
      exact ⟨k, walk_turn w⟩
    · rintro ⟨k, w⟩
      exact ⟨sw x, (led_mem ht h).mpr ⟨k, walk_turn w⟩, rfl⟩
/-- what is come to, each with the one ahead -/
@[irreducible] def aheadK (n : Nat) (ts : List (Int × Int)) (a : Int × Int) : List ((Int × Int) × Option (Int × Int)) := (itL (stp n ts) a 600).1
theorem ahead_stop {n : Nat} {ts : List (Int × Int)} (hn : n ≤ 24) (ht : Tied n ts) {a : Int × Int} (h : adj ts a.1 a.2 = true) : (itL (stp n ts) a 600).2 = [] :=
  itL_stop _ (u := allP n) (fun x r => reach_all ht h r) (by have h1 := allP_len n; have h2 : n * n ≤ 576 := Nat.mul_le_mul hn hn; omega)
theorem ahead_of {n : Nat} {ts : List (Int × Int)} (hn : n ≤ 24) (ht : Tied n ts) {a : Int × Int} (h : adj ts a.1 a.2 = true) {i : Nat} (hi : (itL (stp n ts) a i).2 = []) : (itL (stp n ts) a i).1 = aheadK n ts a := by
  unfold aheadK
  rw [itL_same _ hi (ahead_stop hn ht h)]
theorem ahead_bi {n : Nat} {ts : List (Int × Int)} (hn : n ≤ 24) (ht : Tied n ts) {a : Int × Int} (h : adj ts a.1 a.2 = true) : BI (stp n ts) a (aheadK n ts a) [] := by
  unfold aheadK
  have z := itL_bi (stp n ts) a 600
  rw [ahead_stop hn ht h] at z
  exact z
theorem ahead_led {n : Nat} {ts : List (Int × Int)} (hn : n ≤ 24) (ht : Tied n ts) {a : Int × Int} (h : adj ts a.1 a.2 = true) : sortP ((aheadK n ts a).map (·.1)) = ledL n ts a :=
  led_perm ht h (ahead_bi hn ht h).nd fun x => bi_end _ (ahead_bi hn ht h) x
/-- the law's walk: what is come to, with how far -/
@[irreducible] def distK (n : Nat) (ts : List (Int × Int)) (a : Int × Int) : List ((Int × Int) × Nat) := dsL (stp n ts) a 600
theorem dsL_bd {n : Nat} {ts : List (Int × Int)} (hn : n ≤ 24) (ht : Tied n ts) {a : Int × Int} (h : adj ts a.1 a.2 = true) (i : Nat) : (dsL (stp n ts) a i).length ≤ 576 := by
  have z := li_len _ (u := allP n) (dsL_li (stp n ts) a i) fun x r => reach_all ht h r
  have h1 := allP_len n
  have h2 : n * n ≤ 576 := Nat.mul_le_mul hn hn
  omega
theorem dist_of {n : Nat} {ts : List (Int × Int)} (hn : n ≤ 24) (ht : Tied n ts) {a : Int × Int} (h : adj ts a.1 a.2 = true) {i : Nat} (hi : (dsL (stp n ts) a i).length ≤ i) : dsL (stp n ts) a i = distK n ts a := by
  unfold distK
  exact dsL_same _ hi (Nat.le_trans (dsL_bd hn ht h 600) (by decide))
theorem dist_led {n : Nat} {ts : List (Int × Int)} (hn : n ≤ 24) (ht : Tied n ts) {a : Int × Int} (h : adj ts a.1 a.2 = true) : sortP ((distK n ts a).map (·.1)) = ledL n ts a := by
  unfold distK
  exact led_perm ht h (dsL_li (stp n ts) a 600).nd fun x => li_keys _ (dsL_li (stp n ts) a 600) (Nat.le_trans (dsL_bd hn ht h 600) (by decide)) x
end DL

end
section
set_option maxHeartbeats 4000000
namespace Lw
open PySem PySem.Spec L2 DL
abbrev rDist : List D → (Out → Prop) → Prop := fun ds post => ∃ (n : Nat) (ts : List (Int × Int)) (p : Int × Int), ds = [.dic (dk (bothK ts) fun _ => true), .int n, dP p] ∧ (n ≤ 24 ∧ Tied n ts ∧ adj ts p.1 p.2 = true) ∧ post (.ret (.dic (dM nD (distK n ts p))))
section
variable {P : Program} {w : World} {K : PySem.W.Frag} {mg : Str → Option Value} {base : Heap} {c : Pn.At}
abbrev s_law_distances : Stmt := top 51
theorem sc_law_distances : FnScope ["_law_both_here", "_law_many", "_law_arrow_here", "_law_found", "_law_todo", "_law_at", "_law_new"] ["_law_both_here", "_law_many", "_law_arrow_here"] (defScope s_law_distances) := ⟨rfl, rfl, rfl, by decide +kernel, rfl, by decide +kernel, by decide +kernel⟩
theorem ok_dist {f : Addr} {fd : FuncData} (F : Fun K "_law_distances" "_law_distances" s_law_distances f fd) (T : Glb mg) (gForces : FnC P w K mg base CX0 1 "_law_forces" rForces) : FnOk P w K mg base CX0 2 f fd ["_law_both_here", "_law_many", "_law_arrow_here"] (spD K rDist) := by
  have nd := sc_law_distances.nd
  refine fn_okD F sc_law_distances (by rintro _ _ ⟨_, _, _, rfl, _⟩; rfl) (by decide) ?_
  rintro X _ post ⟨cdv, A, outer, s, H, E, rfl⟩ hr ⟨n, ts, p, rfl, ⟨hn, ht, hab⟩, hp⟩
  refine sxs_cons (sx_setD 3 nd (ed_one hr (ex_v 2) ex_int) (sxs_cons (sx_setO 4 nd (eo_lst (ea_cons (ex_v 2) ea_nil)) (sxs_cons (sx_set 5 nd ex_int ?_)))))
  refine sxs_cons (sx_while (fun m cs => ∃ i v6, m = 600 - i ∧ i ≤ (dsL (stp n ts) p i).length ∧ cs = [.sh (.dic (dk (bothK ts) fun _ => true)), .sh (.int n), .sh (dP p), .od (dM nD (dsL (stp n ts) p i)), .ol (((dsL (stp n ts) p i).map (·.1)).map dP), .sh (.int (i : Int)), v6]) .never _ ⟨0, _, rfl, Nat.zero_le _, rfl⟩ ?_)
  rintro m cs ⟨i, v6, hm, hi, rfl⟩
  have li := dsL_li (stp n ts) p i
  have hl := dsL_bd hn ht hab i
  have hl2 := dsL_bd hn ht hab (i + 1)
  have hle : (((dsL (stp n ts) p i).map (·.1)).map dP).length = (dsL (stp n ts) p i).length := by rw [List.length_map, List.length_map]
  refine ⟨decide ((i : Int) < ((dsL (stp n ts) p i).length : Int)), TX.to (tx_lt (eb_v 5) (EX.bo (ex_lenL T.len (eb_v 4)))) (by rw [hle]), fun h => ?_, fun h => ?_⟩
  · have hil : i < (dsL (stp n ts) p i).length := by have := of_decide_eq_true h; omega
    obtain ⟨x, hx⟩ : ∃ x, (dsL (stp n ts) p i)[i]? = some x := ⟨_, List.getElem?_eq_getElem hil⟩
    have e1 := dsL_some (stp n ts) hx
    have hxm := List.mem_of_getElem? hx
    have hxa : adj ts x.1.1 x.1.2 = true := reach_adj hab ⟨_, li.wk x hxm⟩
    have hol : (onceL n ts x.1.1 x.1.2).length ≤ 100 := Nat.le_trans once_len (by omega)
    have hat : ∀ l : List ((Int × Int) × Nat), atI ((((dsL (stp n ts) p i ++ l).map (·.1)).map dP)) (i : Int) = some (dP x.1) := fun l => atI_nat (by rw [List.getElem?_map, List.getElem?_map, List.getElem?_append_left hil, hx]; rfl)
    have hat0 : atI ((((dsL (stp n ts) p i).map (·.1)).map dP)) (i : Int) = some (dP x.1) := by have := hat []; rwa [List.append_nil] at this
    refine sxs_cons (sx_forL 6 (fun k cs => ∃ v6, cs = [.sh (.dic (dk (bothK ts) fun _ => true)), .sh (.int n), .sh (dP p), .od (dM nD (linL x.2 (dsL (stp n ts) p i) ((onceL n ts x.1.1 x.1.2).take k))), .ol (((linL x.2 (dsL (stp n ts) p i) ((onceL n ts x.1.1 x.1.2).take k)).map (·.1)).map dP), .sh (.int (i : Int)), v6]) rfl nd .never (ex_call gForces (hr.mono (by decide)) pass0 (ea_cons (ex_v 0) (ea_cons (ex_v 1) (ea_cons (ex_ixO 4 rfl (eb_v 5) hat0) ea_nil))) (by exact ⟨n, ts, _, rfl, hn, rfl⟩)) ⟨_, rfl⟩ ?_ ?_)
    · rintro k d _ hd ⟨v6, rfl⟩
      obtain ⟨q, hq, rfl⟩ := map_at hd
      have hs2 : (onceL n ts x.1.1 x.1.2).take (k + 1) = (onceL n ts x.1.1 x.1.2).take k ++ [q] := by rw [List.take_add_one, hq]; rfl
      have hk := (List.getElem?_eq_some_iff.mp hq).1
      have hil2 := linL_len (d := x.2) (ks := dsL (stp n ts) p i) (l := (onceL n ts x.1.1 x.1.2).take k)
      rw [List.length_take] at hil2
      rw [hs2, linL_snoc]
      obtain ⟨new, en, n1, n2, n3⟩ := linL_new (d := x.2) (l := (onceL n ts x.1.1 x.1.2).take k) li.nd
      have hat2 := hat (new.map fun y => (y, x.2 + 1))
      rw [← en] at hat2
      have hlk : lk (dM nD (linL x.2 (dsL (stp n ts) p i) ((onceL n ts x.1.1 x.1.2).take k))) x.1 = some (.int (x.2 : Int)) := by
        refine lk_dM nD (b := x.2) ?_ ?_
        · rw [en, List.map_append, List.map_map]
          exact nodup_app li.nd (by rw [show List.map ((fun z : (Int × Int) × Nat => z.1) ∘ fun y => (y, x.2 + 1)) new = new from List.map_id _]; exact n1) fun y hy => by
            obtain ⟨z, hz, rfl⟩ := List.mem_map.mp hy
            exact (n2 z hz).2
        · rw [en]; exact List.mem_append_left _ hxm
      generalize linL x.2 (dsL (stp n ts) p i) ((onceL n ts x.1.1 x.1.2).take k) = S2 at *
      refine sxs_one (sx_if (k := !decide (q ∈ S2.map (·.1))) ?_ (fun h => ?_) (fun h => sxs_nil ?_))
      · exact TX.to (tx_ninD hr (eb_v 6) (eb_v 3)) (by rw [lk_dM_has])
      · have hno : q ∉ S2.map (·.1) := by simpa using h
        refine sxs_cons (sx_put 3 hr (EX.to (d' := .int ((x.2 + 1 : Nat) : Int)) (ex_add (eb_ixD hr (eb_v 3) (EX.bo (ex_ixO 4 rfl (eb_v 5) hat2)) hlk) (EX.bo ex_int)) rfl) (ex_v 6) (by rw [dM_len]; omega) ?_ (hc := rfl))
        rw [show D.int ((x.2 + 1 : Nat) : Int) = nD (x.2 + 1) from rfl, put_dM nD hno]
        refine sxs_one (sx_append 4 rfl (ex_v 6) (by first | (rw [dM_len]; omega) | (rw [List.length_map, List.length_map]; omega)) (fun _ h1 => ps_expr (pe_bm PySem.F.plainAttrs_list PySem.F.slot_list_append PySem.F.type_list_append mt_append (pv 4) (pa_cons h1 pa_nil))) ?_)
        rw [lin, if_neg hno, List.map_append (l₁ := S2), List.map_append]
        exact ⟨_, rfl⟩
      · have hno : q ∈ S2.map (·.1) := by simpa using h
        rw [lin, if_pos hno]
        exact ⟨_, rfl⟩
    · rintro _ ⟨v6, rfl⟩
      rw [List.length_map, List.take_length, ← e1]
      have hgr : (dsL (stp n ts) p i).length ≤ (dsL (stp n ts) p (i + 1)).length := by
        obtain ⟨new, en, _⟩ := linL_new (d := x.2) (l := stp n ts x.1) li.nd
        rw [e1, en, List.length_append]
        omega
      refine sxs_one (sx_set 5 nd (ex_add (eb_v 5) (EX.bo ex_int)) ⟨600 - (i + 1), by omega, i + 1, _, rfl, by omega, rfl⟩)
  · have hil : (dsL (stp n ts) p i).length ≤ i := by have := of_decide_eq_false h; omega
    rw [dist_of hn ht hab hil]
    refine sxs_frD 3 rfl ?_
    refine sxs_one (sx_ret (ex_v 3) ?_)
    exact hp
end
end Lw

end
section
set_option maxHeartbeats 4000000
namespace Pn
open PySem PySem.Spec L2 DL
abbrev rAhead (c : At) : List D → (Out → Prop) → Prop := fun ds post => ∃ (n : Nat) (ts : List (Int × Int)) (a b : Int), ds = [netD c n ts, dP (a, b)] ∧ (n ≤ 24 ∧ Tied n ts ∧ adj ts a b = true) ∧ post (.ret (.dic (dM oD (aheadK n ts (a, b)))))
abbrev rLed (c : At) (ar : Addr) : List D → (Out → Prop) → Prop := fun ds post => ∃ (n : Nat) (ts : List (Int × Int)) (a b : Int), ds = [netD c n ts, dP (a, b)] ∧ (n ≤ 24 ∧ Tied n ts ∧ Bd a ∧ Bd b) ∧ (adj ts a b = true → post (.ret (.lst ((ledL n ts (a, b)).map dP)))) ∧ (adj ts a b = false → post (.exc ar))
section
variable {P : Program} {w : World} {K : PySem.W.Frag} {mg : Str → Option Value} {base : Heap} {c : At} {ar : Addr}
abbrev s_ahead : Stmt := top 21
theorem sc_ahead : FnScope ["net", "start", "ahead", "layer", "following", "arrow", "found"] ["net", "start"] (defScope s_ahead) := ⟨rfl, rfl, rfl, by decide +kernel, rfl, by decide +kernel, by decide +kernel⟩
theorem ok_ahead {f : Addr} {fd : FuncData} (F : Fun K "_ahead" "_ahead" s_ahead f fd) (T : LawK K mg c) (gOnce : FnC P w K mg base CX0 4 "_at_once" (rOnce c)) : FnOk P w K mg base CX0 5 f fd ["net", "start"] (spD K (rAhead c)) := by
  have nd := sc_ahead.nd
  refine fn_okD F sc_ahead (by rintro _ _ ⟨_, _, _, _, rfl, _⟩; rfl) (by decide) ?_
  rintro X _ post ⟨cdv, A, outer, s, H, E, rfl⟩ hr ⟨n, ts, a, b, rfl, ⟨hn, ht, hab⟩, hp⟩
  have hall := allP_len n
  have hnn : n * n ≤ 576 := Nat.mul_le_mul hn hn
  refine sxs_cons (sx_setD 2 nd (ed_one hr (ex_v 1) ex_non) (sxs_cons (sx_set 3 nd (EO.x (eo_lst (ea_cons (ex_v 1) ea_nil))) ?_)))
  refine sxs_cons (sx_while (fun m cs => ∃ i v4 v5 v6, m = 2 * (600 - (itL (stp n ts) (a, b) i).1.length) + (if (itL (stp n ts) (a, b) i).2.isEmpty = true then 0 else 1) ∧ cs = [.sh (netD c n ts), .sh (dP (a, b)), .od (dM oD (itL (stp n ts) (a, b) i).1), .sh (.lst ((itL (stp n ts) (a, b) i).2.map dP)), v4, v5, v6]) .never _ ⟨0, _, _, _, rfl, rfl⟩ ?_)
  rintro m cs ⟨i, v4, v5, v6, hm, rfl⟩
  have bi := itL_bi (stp n ts) (a, b) i
  have bi2 := itL_bi (stp n ts) (a, b) (i + 1)
  have bl := bi_len (stp n ts) bi2 (u := allP n) fun x r => reach_all ht hab r
  have hg := bi_grow (stp n ts) (ly := (itL (stp n ts) (a, b) i).2) bi.nd
  have e1 : itL (stp n ts) (a, b) (i + 1) = outL (stp n ts) ((itL (stp n ts) (a, b) i).1, []) (itL (stp n ts) (a, b) i).2 := rfl
  have hz : (itL (stp n ts) (a, b) i).2 = [] → (itL (stp n ts) (a, b) i).1 = aheadK n ts (a, b) := fun e => ahead_of hn ht hab e
  have hadj : ∀ x ∈ (itL (stp n ts) (a, b) i).2, adj ts x.1 x.2 = true := fun x hx => reach_adj hab (bi.re x (bi.sub x hx))
  rw [← e1] at hg
  generalize hI : itL (stp n ts) (a, b) i = I at *
  obtain ⟨ks, ly⟩ := I
  simp only at bi bl hm hg hz hadj ⊢
  refine ⟨!(ly.map dP).isEmpty, tx_truL (eb_v 3), fun h => ?_, fun h => ?_⟩
  · have hne : ly ≠ [] := fun e => by rw [e] at h; cases h
    have hlb : ∀ j, (outL (stp n ts) (ks, []) (ly.take j)).1.length ≤ 576 ∧ (outL (stp n ts) (ks, []) (ly.take j)).2.length ≤ 576 := by
      intro j
      have h1 := outL_take (stp n ts) (l := ly) (st := (ks, [])) j
      rw [← e1] at h1
      omega
    refine sxs_cons (sx_setO 4 nd (eo_lst ea_nil) ?_)
    refine sxs_cons (sx_forL 5 (fun j cs => ∃ v5 v6, cs = [.sh (netD c n ts), .sh (dP (a, b)), .od (dM oD (outL (stp n ts) (ks, []) (ly.take j)).1), .sh (.lst (ly.map dP)), .ol ((outL (stp n ts) (ks, []) (ly.take j)).2.map dP), v5, v6]) rfl nd .never (ex_v 3) ⟨_, _, rfl⟩ ?_ ?_)
    · rintro j d _ hd ⟨v5, v6, rfl⟩
      obtain ⟨q, hq, rfl⟩ := map_at hd
      have hqa := hadj q (List.mem_of_getElem? hq)
      have hs : ly.take (j + 1) = ly.take j ++ [q] := by rw [List.take_add_one, hq]; rfl
      have hb := hlb j
      generalize hS : outL (stp n ts) (ks, []) (ly.take j) = S at *
      have hol : (onceL n ts q.1 q.2).length ≤ 100 := Nat.le_trans once_len (by omega)
      refine sxs_one (sx_forL 6 (fun k cs => ∃ v6, cs = [.sh (netD c n ts), .sh (dP (a, b)), .od (dM oD (inL q S ((onceL n ts q.1 q.2).take k)).1), .sh (.lst (ly.map dP)), .ol ((inL q S ((onceL n ts q.1 q.2).take k)).2.map dP), .sh (dP q), v6]) rfl nd .never (ex_call gOnce (hr.mono (by decide)) pass0 (ea_cons (ex_v 0) (ea_cons (ex_v 5) ea_nil)) (by exact ⟨n, ts, _, _, rfl, ⟨hn, ht, hqa⟩, rfl⟩)) ⟨_, rfl⟩ ?_ ?_)
      · rintro k d _ hd ⟨v6, rfl⟩
        obtain ⟨x, hx, rfl⟩ := map_at hd
        have hk := (List.getElem?_eq_some_iff.mp hx).1
        have hs2 : (onceL n ts q.1 q.2).take (k + 1) = (onceL n ts q.1 q.2).take k ++ [x] := by rw [List.take_add_one, hx]; rfl
        have hil := inL_len (ar := q) (st := S) (l := (onceL n ts q.1 q.2).take k)
        rw [List.length_take] at hil
        rw [hs2, inL_snoc]
        generalize inL q S ((onceL n ts q.1 q.2).take k) = S2 at *
        refine sxs_one (sx_if (k := !decide (x ∈ Kf S2.1)) ?_ (fun h => ?_) (fun h => sxs_nil ?_))
        · exact TX.to (tx_ninD hr (eb_v 6) (eb_v 2)) (by rw [lk_dM_has])
        · have hno : x ∉ Kf S2.1 := by simpa using h
          refine sxs_cons (sx_put 2 hr rfl (ex_v 5) (ex_v 6) (by first | (rw [dM_len]; omega) | (rw [List.length_map]; omega)) ?_)
          rw [show dP q = oD (some q) from rfl, put_dM oD hno]
          refine sxs_one (sx_append 4 rfl (ex_v 6) (by first | (rw [dM_len]; omega) | (rw [List.length_map]; omega)) (fun _ h1 => ps_expr (pe_bm PySem.F.plainAttrs_list PySem.F.slot_list_append PySem.F.type_list_append mt_append (pv 4) (pa_cons h1 pa_nil))) ?_)
          rw [inn, if_neg hno, List.map_append]
          exact ⟨_, rfl⟩
        · have hno : x ∈ Kf S2.1 := by simpa using h
          rw [inn, if_pos hno]
          exact ⟨_, rfl⟩
      · rintro _ ⟨v6, rfl⟩
        rw [List.length_map, List.take_length, hs, outL_snoc, hS]
        exact ⟨_, _, rfl⟩
    · rintro _ ⟨v5, v6, rfl⟩
      rw [List.length_map, List.take_length, ← e1]
      refine sxs_frL 4 rfl (sxs_one (sx_set 3 nd (ex_v 4) ⟨_, ?_, i + 1, _, _, _, rfl, rfl⟩))
      rw [hm]
      have h1 : ly.isEmpty = false := by cases ly with
        | nil => exact (hne rfl).elim
        | cons _ _ => rfl
      rw [h1]
      cases h2 : (itL (stp n ts) (a, b) (i + 1)).2 with
      | nil => rw [h2] at hg; simp at hg ⊢; omega
      | cons _ _ => rw [h2] at hg; simp at hg ⊢; omega
  · have he : ly = [] := by cases ly with
      | nil => rfl
      | cons _ _ => cases h
    refine sxs_frD 2 rfl ?_
    refine sxs_one (sx_ret (ex_v 2) ?_)
    rw [hz he]
    exact hp
abbrev sled : Stmt := top 23
theorem scled : FnScope ["net", "arrow"] ["net", "arrow"] (defScope sled) := ⟨rfl, rfl, rfl, by decide +kernel, rfl, by decide +kernel, by decide +kernel⟩
theorem ok_led {f : Addr} {fd : FuncData} (F : Fun K "led" "led" sled f fd) (T : LawK K mg c) (gNeedA : FnC P w K mg base (L2N.CX P w) 4 "_need_arrow" (rNeedA c ar)) (gAhead : FnC P w K mg base CX0 5 "_ahead" (rAhead c)) : FnOk P w K mg base (L2N.CX P w) 6 f fd ["net", "arrow"] (spN K (rLed c ar)) := by
  have nd := scled.nd
  refine fn_okNX F scled (by rintro _ _ ⟨_, _, _, _, rfl, _⟩; rfl) (by decide) ?_
  rintro X _ post ⟨cdv, A, outer, s, H, E, rfl⟩ hr ⟨n, ts, a, b, rfl, ⟨hn, ht, ha, hb⟩, hp, hq⟩
  refine sxo_cons (sx_exprX (exr_call (post := fun o => (o = .ret .non ∧ adj ts a b = true) ∨ (o = .exc ar ∧ adj ts a b = false)) gNeedA (hr.mono (by decide)) (ea_cons (ex_v 0) (ea_cons (ex_v 1) ea_nil)) (by exact ⟨n, ts, a, b, rfl, ⟨hn, ht, ha, hb⟩, fun h => .inl ⟨rfl, h⟩, fun h => .inr ⟨rfl, h⟩⟩)) ?_ ?_)
  · rintro d (⟨_, h1⟩ | ⟨e, _⟩)
    · have T0 := T.toGlb
      refine sxo_ret (EO.to (eo_sortedD rfl T0.sorted (EX.bo (ex_call gAhead (hr.mono (by decide)) pass0 (ea_cons (ex_v 0) (ea_cons (ex_v 1) ea_nil)) (by exact ⟨n, ts, a, b, rfl, ⟨hn, ht, h1⟩, rfl⟩)))) (by rw [dM_keys, ahead_led hn ht h1])) (hp h1)
    · cases e
  · rintro Cl (⟨e, _⟩ | ⟨e, h1⟩)
    · cases e
    · cases e; exact hq h1
end
end Pn

end
section
set_option maxHeartbeats 2000000
namespace DL
open PySem PySem.Spec L2
section
variable {X : Cx} {cs : List C} {o e f : Expr} {apos cpos : Pos} {kvs : List ((Int × Int) × D)} {i j : Int} {k : Nat} {dd : D}
/-- d.get(k, x) -/
theorem ex_getD (hr : Room k X.A) (ho : EX X cs o (.dic kvs)) (he : EB X cs e (.tup [.int i, .int j])) (hf : EX X cs f dd) (m : M2 X o "get" apos e f cpos := by exact ⟨rfl, rfl, rfl, rfl⟩) : EX X cs (.Call (.Attribute o "get" apos) [e, f] [] cpos) ((lk kvs (i, j)).getD dd) := fun He Hb H0 H σ Q s q =>
  wE_of (pe_dget2 (hu_of hr) pe_w pe_w pe_w m) (ho _ _ _ _ _ _ s fun x H1 H01 g1 r1 => by
    cases r1 with
    | @dic a vs _ hl r =>
      refine ⟨a, rfl, .inr ⟨vs, .inl (g1.i _ _ hl)⟩, he _ _ _ _ _ _ (s.grow g1) fun y H2 H02 g2 r2 => hf _ _ _ _ _ _ ((s.grow g1).grow g2) fun z H3 H03 g3 r3 => ?_⟩
      obtain ⟨t, rfl, ht⟩ := r2.tup2
      refine ⟨_, DGet.t (k := pk i j) (g3.h _ _ (g2.h _ _ (g1.i _ _ hl))) (g3.h _ _ ht), q _ _ _ ((g1.trans g2).trans g3) ?_⟩
      rcases r.get i j with ⟨h1, h2⟩ | ⟨v, d', h1, h2, h3⟩
      · rw [h1, h2]; exact r3
      · rw [h1, h2]; exact h3.mono (g2.b.trans g3.b))
end
theorem RepA.rev {K : PySem.W.Frag} {H : Hp} : ∀ {vs : List V} {ds : List D}, RepA K H vs ds → RepA K H vs.reverse ds.reverse
  | _, _, .nil => .nil
  | _, _, .cons r t => by
    rw [List.reverse_cons, List.reverse_cons]
    exact (RepA.rev t).app (.cons r .nil)
/-- xs[::-1], xs one's own list -/
theorem eo_revO {X : Cx} {cs : List C} {ds : List D} {p p1 p2 p3 pos : Pos} {n : Nat} (k : Nat) {x : Str} (hc : cs[k]? = some (.ol ds)) (hN : X.N[k]? = some x := by rfl) (hv : Vis X.env.scope x := by first | exact Or.inl rfl | exact Or.inr (Or.inl rfl) | exact Or.inr (Or.inr rfl))
    (hd : (x == ("__debug__" : Str)) = false := by decide) (hcd : (x == ("__classdict__" : Str)) = false := by decide) : EO X cs (.Subscript (.Name x p) (.Slice none none (some (.UnaryOp .USub (.Constant (.int 1) n p1) p2)) p3) pos) ds.reverse := fun He Hb H0 H σ Q s q => by
  obtain ⟨l0, vs, e, h0, hl, r⟩ := s.sl k _ hc
  exact wE_of (pe_revL (pe_var hN hv hd hcd)) ⟨_, e, l0, vs, rfl, SqL.of hl, fun l hn => q l _ _ _ (Grow.own s.i hn) hn (s.i.free hn) upd_same r.rev⟩
def D.isN : D → Bool
  | .non => true
  | _ => false
theorem Rep.isN {K : PySem.W.Frag} {H : Hp} {v : V} {d : D} (r : Rep K H v d) : decide (v = .non) = d.isN := by
  cases r <;> rfl
section
variable {X : Cx} {cs : List C} {a : Expr} {pos pos' : Pos} {d : D} {j : Nat}
theorem ex_isN (ha : EB X cs a d) : EX X cs (.Compare a [.Is] [.Constant .none j pos'] pos) (.bl d.isN) := fun He Hb H0 H σ Q s q =>
  wE_of (pe_cmp (pc_isN pe_w)) (ha _ _ _ _ _ _ s fun x H1 H01 g1 r1 => by
    show Q _ _
    rw [r1.isN]
    exact q _ _ _ g1 (.bl _))
theorem tx_isN (ha : EB X cs a d) : TX X cs (.Compare a [.Is] [.Constant .none j pos'] pos) d.isN := fun He Hb H0 H σ Q s q =>
  wT_of (pt_cmp (pc_isN pe_w)) (ha _ _ _ _ _ _ s fun x H1 H01 g1 r1 => ⟨_, rfl, by rw [r1.isN]; exact q _ _ g1⟩)
end
/-! an answer that is None or a new list -/
def spW (K : PySem.W.Frag) (R : List D → (Out → Prop) → Prop) : Sp := fun vs H Q E => ∃ (H0 : Hp) (ds : List D) (post : Out → Prop), Same H0 H ∧ RepA K H0 vs ds ∧ R ds post ∧
  (∀ ds' l ws H' H0', post (.ret (.lst ds')) → Grow H0 H H0' H' → H l = none → H0' l = none → H' l = some (.lst ws) → RepA K H0' ws ds' → Q (.ref l) H') ∧ (∀ H' H0', post (.ret .non) → Grow H0 H H0' H' → Q .non H') ∧ ∀ Cl H', post (.exc Cl) → Same H H' → E (.ref Cl) none H'
structure FnW (P : Program) (w : World) (K : PySem.W.Frag) (mg : Str → Option Value) (base : Heap) (CX : CXT) (k : Nat) (x : Str) (R : List D → (Out → Prop) → Prop) : Prop where
  ex : ∃ f fd ps, FnOk P w K mg base CX k f fd ps (spW K R) ∧ mg x = some (.ref f) ∧ PySem.W.keepIn K (.ref f) = true ∧ Binds K fd ps []
theorem FnW.d {P : Program} {w : World} {K : PySem.W.Frag} {mg : Str → Option Value} {base : Heap} {CX : CXT} {k : Nat} {x : Str} {R : List D → (Out → Prop) → Prop} (M : FnW P w K mg base CX k x R) : FnC P w K mg base CX k x R := by
  obtain ⟨f, fd, ps, ok, a, b, c⟩ := M.ex
  exact ⟨f, fd, ps, ok.imp fun _ _ _ _ h => by
    obtain ⟨H0, ds, post, i, r, h, k1, k2⟩ := h
    exact ⟨H0, ds, post, i, r, h, fun ds' l ws H' H0' z g hl h0 h1 rw => k1 _ _ H' _ z (g.freeze hl h0 h1) (.lst upd_same (rw.mono (same_upd h0))), fun H' H0' z g => k1 _ _ H' _ z g .non, k2⟩, a, b, c⟩
theorem FnW.n {P : Program} {w : World} {K : PySem.W.Frag} {mg : Str → Option Value} {base : Heap} {CX : CXT} {k : Nat} {x : Str} {R : List D → (Out → Prop) → Prop} (M : FnW P w K mg base CX k x R) : FnN P w K mg base CX k x fun ds post => R ds post ∧ ¬ post (.ret .non) := by
  obtain ⟨f, fd, ps, ok, a, b, c⟩ := M.ex
  exact ⟨f, fd, ps, ok.imp fun _ _ _ _ h => by
    obtain ⟨H0, ds, post, i, r, ⟨h, hn⟩, k1, k2⟩ := h
    exact ⟨H0, ds, post, i, r, h, k1, fun H' H0' z _ => absurd z hn, k2⟩, a, b, c⟩
section
variable {P : Program} {w : World} {K : PySem.W.Frag} {mg : Str → Option Value} {base : Heap}
theorem fn_okWX {x qual : Str} {st : Stmt} {f : Addr} {fd : FuncData} {N ps : List Str} {k : Nat} {R : List D → (Out → Prop) → Prop} (F : Fun K x qual st f fd) (S : FnScope N ps (defScope st)) (hl : ∀ ds post, R ds post → ds.length = ps.length) (hps : ps.length ≤ N.length)
    (hb : ∀ (X : Cx) ds post, (∃ cdv A outer s H E, X = cxOf (L2N.CX P w) P w K mg base N qual (defScope st) f cdv A outer s H E) → Room k X.A → R ds post → SXo X (ent N.length ds) (defBody st) { nx := fun _ => False, rt := fun d => d = .non ∧ post (.ret .non), ex := fun Cl _ => post (.exc Cl) } fun ds' => post (.ret (.lst ds'))) : FnOk P w K mg base (L2N.CX P w) (k + 1) f fd ps (spW K R) := by
  refine okXN F S (fun vs H Q E h => ?_) (fun cdv A outer s H vs Q E hr h => ?_)
  · obtain ⟨H0, ds, post, _, r, h, _⟩ := h
    rw [r.len]
    exact hl ds post h
  · obtain ⟨H0, ds, post, i, r, h, k1, k3, k2⟩ := h
    refine ⟨_, pss_w, hb _ ds post ⟨_, _, _, _, _, _, rfl⟩ hr h _ _ _ _ _ _ (sr_start i r (by rw [hl ds post h]; exact hps)) ⟨fun _ _ _ _ _ _ z => z.elim, fun v d H0' H' g r z => ?_, fun _ _ _ _ _ _ z => z.elim, fun _ _ _ _ _ _ z => z.elim, ?_⟩ fun ds' l ws H0' H' z g hl h0 h1 rw => k1 ds' l ws H' H0' z g hl h0 h1 rw⟩
    · obtain ⟨rfl, z⟩ := z
      cases r
      exact k3 _ _ z g
    · exact (L2N.takes_of (E := E) rfl rfl rfl rfl).imp fun c d' σ H' hw => by
        obtain ⟨Cl, cs, H0', rfl, rfl, h3, h4, h5⟩ := hw
        exact k2 Cl H' h5 h4.gr.h
end
theorem atI_last {xs : List D} {d : D} : atI (xs ++ [d]) (-1) = some d := by
  unfold atI ixN
  rw [if_neg (by decide), List.length_append, List.length_singleton]
  rw [if_pos (by omega)]
  have e : ((-1 : Int) + ((xs.length + 1 : Nat) : Int)).toNat = xs.length := by omega
  show (xs ++ [d])[((-1 : Int) + ((xs.length + 1 : Nat) : Int)).toNat]? = _
  rw [e]
  simp
theorem at_last {xs : List (Int × Int)} {p : Int × Int} : atI ((xs ++ [p]).map dP) (-1) = some (dP p) := by
  rw [List.map_append]
  exact atI_last
end DL

end
section
set_option maxHeartbeats 2000000
namespace DL
section
variable {α : Type} (f : α → List α) (lt : α → α → Prop)
def lexLe : List α → List α → Prop
  | [], [] => True
  | x :: r, y :: s => lt x y ∨ (x = y ∧ lexLe r s)
  | _, _ => False
def lexLt : List α → List α → Prop
  | x :: r, y :: s => lt x y ∨ (x = y ∧ lexLt r s)
  | _, _ => False
theorem lexLe_refl : ∀ r : List α, lexLe lt r r
  | [] => trivial
  | _ :: r => .inr ⟨rfl, lexLe_refl r⟩
variable {f lt}
theorem lexLe_len : ∀ {r s : List α}, lexLe lt r s → r.length = s.length ∨ ∃ k x y r' s', r = k ++ x :: r' ∧ s = k ++ y :: s' ∧ lt x y
  | [], [], _ => .inl rfl
  | x :: r, y :: s, .inl h => .inr ⟨[], x, y, r, s, rfl, rfl, h⟩
  | x :: r, _ :: s, .inr ⟨rfl, h⟩ => by
    rcases lexLe_len h with e | ⟨k, u, v, r', s', rfl, rfl, q⟩
    · exact .inl (by rw [List.length_cons, List.length_cons, e])
    · exact .inr ⟨x :: k, u, v, r', s', rfl, rfl, q⟩
theorem lexLe_anti (as : ∀ x y : α, lt x y → ¬ lt y x) : ∀ {r s : List α}, lexLe lt r s → lexLe lt s r → r = s
  | [], [], _, _ => rfl
  | x :: r, y :: s, h, k => by
    rcases h with h | ⟨rfl, h⟩
    · rcases k with k | ⟨rfl, _⟩
      · exact absurd k (as _ _ h)
      · exact absurd h (as _ _ h)
    · rcases k with k | ⟨_, k⟩
      · exact absurd k (as _ _ k)
      · rw [lexLe_anti as h k]
theorem lexLe_trans (tr : ∀ x y z : α, lt x y → lt y z → lt x z) : ∀ {r s t : List α}, lexLe lt r s → lexLe lt s t → lexLe lt r t
  | [], [], t, _, k => k
  | x :: r, y :: s, z :: t, h, k => by
    rcases h with h | ⟨rfl, h⟩
    · rcases k with k | ⟨rfl, k⟩
      · exact .inl (tr _ _ _ h k)
      · exact .inl h
    · rcases k with k | ⟨rfl, k⟩
      · exact .inl k
      · exact .inr ⟨rfl, lexLe_trans tr h k⟩
theorem lexLt_app {u v : α} : ∀ {r s : List α}, lexLt lt r s → lexLt lt (r ++ [u]) (s ++ [v])
  | x :: r, y :: s, .inl h => .inl h
  | x :: r, y :: s, .inr ⟨e, h⟩ => .inr ⟨e, lexLt_app h⟩
theorem lexLt_le_app {u : α} : ∀ {r s : List α}, r.length = s.length → lexLt lt r s → lexLe lt (r ++ [u]) (s ++ [u])
  | x :: r, y :: s, _, .inl h => .inl h
  | x :: r, y :: s, e, .inr ⟨e', h⟩ => .inr ⟨e', lexLt_le_app (by simpa using e) h⟩
theorem lexLt_snoc {u v : α} (h : lt u v) : ∀ r : List α, lexLt lt (r ++ [u]) (r ++ [v])
  | [] => .inl h
  | _ :: r => .inr ⟨rfl, lexLt_snoc h r⟩
theorem lexLe_snoc {u : α} : ∀ {r s : List α}, lexLe lt r s → lexLe lt (r ++ [u]) (s ++ [u])
  | [], [], _ => .inr ⟨rfl, trivial⟩
  | x :: r, y :: s, .inl h => .inl h
  | x :: r, y :: s, .inr ⟨e, h⟩ => .inr ⟨e, lexLe_snoc h⟩
variable (f)
/-- a row from a, each in f of the one ahead -/
inductive Path (a : α) : α → List α → Prop
  | one : Path a a [a]
  | snoc {b c : α} {r : List α} : Path a b r → c ∈ f b → Path a c (r ++ [c])
variable {f}
theorem Path.walk {a b : α} {r : List α} (h : Path f a b r) : ∃ n, r.length = n + 1 ∧ Walk f a n b := by
  induction h with
  | one => exact ⟨0, rfl, .zero⟩
  | snoc _ hc ih =>
    obtain ⟨n, e, w⟩ := ih
    exact ⟨n + 1, by rw [List.length_append, e]; rfl, .succ w hc⟩
theorem Walk.path {a b : α} {n : Nat} (w : Walk f a n b) : ∃ r, Path f a b r ∧ r.length = n + 1 := by
  induction w with
  | zero => exact ⟨_, .one, rfl⟩
  | succ _ hc ih =>
    obtain ⟨r, p, e⟩ := ih
    exact ⟨_, .snoc p hc, by rw [List.length_append, e]; rfl⟩
theorem Path.cons {a b c : α} {r : List α} (hb : b ∈ f a) (p : Path f b c r) : Path f a c (a :: r) := by
  induction p with
  | one => exact .snoc .one hb
  | snoc _ hc ih => exact .snoc ih hc
theorem Path.uncons {a c : α} {s : List α} (p : Path f a c s) : (s = [a] ∧ a = c) ∨ ∃ b r, s = a :: r ∧ b ∈ f a ∧ Path f b c r := by
  induction p with
  | one => exact .inl ⟨rfl, rfl⟩
  | @snoc b c r p hc ih =>
    rcases ih with ⟨rfl, rfl⟩ | ⟨b', r', rfl, hb, p'⟩
    · exact .inr ⟨c, [c], rfl, hc, .one⟩
    · exact .inr ⟨b', r' ++ [c], rfl, hb, .snoc p' hc⟩
theorem Path.head {a c : α} {s : List α} (p : Path f a c s) : ∃ r, s = a :: r := by
  rcases p.uncons with ⟨rfl, _⟩ | ⟨_, r, rfl, _⟩
  · exact ⟨_, rfl⟩
  · exact ⟨r, rfl⟩
variable (f lt)
/-- the least of the shortest rows -/
def Least (a b : α) (r : List α) : Prop := Path f a b r ∧ ∀ s, Path f a b s → r.length < s.length ∨ (r.length = s.length ∧ lexLe lt r s)
variable {f lt}
theorem least_uniq (as : ∀ x y : α, lt x y → ¬ lt y x) {a b : α} {r s : List α} (h : Least f lt a b r) (k : Least f lt a b s) : r = s := by
  rcases h.2 s k.1 with h1 | ⟨e, h1⟩
  · rcases k.2 r h.1 with k1 | ⟨e, k1⟩
    · omega
    · omega
  · rcases k.2 r h.1 with k1 | ⟨e, k1⟩
    · omega
    · exact lexLe_anti as h1 k1
variable (f lt)
/-- step by step the least that comes nearer -/
inductive Gr (b : α) : Nat → α → List α → Prop
  | zero : Gr b 0 b [b]
  | succ {n : Nat} {x g : α} {r : List α} : g ∈ f x → Walk f g n b → (∀ y ∈ f x, Walk f y n b → g = y ∨ lt g y) → Gr b n g r → Gr b (n + 1) x (x :: r)
variable {f lt}
theorem walk_cons {a b c : α} {n : Nat} (hb : b ∈ f a) (w : Walk f b n c) : Walk f a (n + 1) c := by
  induction w with
  | zero => exact .succ .zero hb
  | succ _ hc ih => exact .succ ih hc
theorem gr_least {b : α} {n : Nat} {x : α} {r : List α} (h : Gr f lt b n x r) (hd : ∀ m, m < n → ¬ Walk f x m b) : Least f lt x b r ∧ r.length = n + 1 := by
  induction h with
  | zero =>
    refine ⟨⟨.one, fun s p => ?_⟩, rfl⟩
    obtain ⟨m, e, w⟩ := p.walk
    cases m with
    | zero =>
      rcases p.uncons with ⟨rfl, _⟩ | ⟨_, t, rfl, _, q⟩
      · exact .inr ⟨rfl, lexLe_refl lt _⟩
      · obtain ⟨u, e2, _⟩ := q.walk
        rw [List.length_cons] at e
        omega
    | succ m => exact .inl (by rw [e]; simp)
  | @succ n x g r hg wg hl _ ih =>
    have hdg : ∀ m, m < n → ¬ Walk f g m b := fun m hm w => hd (m + 1) (by omega) (walk_cons hg w)
    obtain ⟨⟨pr, lr⟩, er⟩ := ih hdg
    refine ⟨⟨.cons hg pr, fun s p => ?_⟩, by rw [List.length_cons, er]⟩
    rcases p.uncons with ⟨_, rfl⟩ | ⟨y, s', rfl, hy, ps⟩
    · exact absurd .zero (hd 0 (by omega))
    · obtain ⟨m, em, wm⟩ := ps.walk
      have hm : n ≤ m := by
        rcases Nat.lt_or_ge m n with z | z
        · exact absurd (walk_cons hy wm) (hd (m + 1) (by omega))
        · exact z
      rcases Nat.lt_or_ge n m with z | z
      · exact .inl (by rw [List.length_cons, List.length_cons, er, em]; omega)
      · obtain rfl : m = n := by omega
        refine .inr ⟨by rw [List.length_cons, List.length_cons, er, em], .inr ⟨rfl, ?_⟩⟩
        rcases hl y hy wm with rfl | hlt
        · rcases lr s' ps with z2 | ⟨_, z2⟩
          · omega
          · exact z2
        · obtain ⟨r0, rfl⟩ := pr.head
          obtain ⟨s0, rfl⟩ := ps.head
          exact .inl hlt
end
section
variable {α : Type} [DecidableEq α] (f : α → List α) (lt : α → α → Prop)
/-- the row that is told by the ones ahead -/
inductive PRow (ks : List (α × Option α)) (a : α) : α → List α → Prop
  | one : (a, none) ∈ ks → PRow ks a a [a]
  | snoc {x y : α} {r : List α} : (x, some y) ∈ ks → PRow ks a y r → PRow ks a x (r ++ [x])
variable {f lt}
theorem PRow.mono {ks more : List (α × Option α)} {a x : α} {r : List α} (h : PRow ks a x r) : PRow (ks ++ more) a x r := by
  induction h with
  | one h => exact .one (List.mem_append_left _ h)
  | snoc h _ ih => exact .snoc (List.mem_append_left _ h) ih
variable (f lt)
structure RI (a : α) (i : Nat) (ks : List (α × Option α)) (ly : List (α × List α)) : Prop where
  bi : BI f a ks (ly.map (·.1))
  go : ∀ x ∈ Kf ks, ∃ r, PRow ks a x r ∧ Least f lt a x r ∧ r.length ≤ i + 1
  ro : ∀ p ∈ ly, PRow ks a p.1 p.2 ∧ Least f lt a p.1 p.2 ∧ p.2.length = i + 1
  up : ly.Pairwise fun p q => lexLt lt p.2 q.2
  al : ∀ m x, m ≤ i → Walk f a m x → x ∈ Kf ks
  ly : ∀ x, Walk f a i x → (∀ m, m < i → ¬ Walk f a m x) → x ∈ ly.map (·.1)
/-- within a layer: p is done, of ar (its row r) what stands in u -/
structure FI (ks : List (α × Option α)) (lyR p : List (α × List α)) (ar : α) (r : List α) (u : List α) (st : List (α × Option α) × List α) (fo : List (α × List α)) : Prop where
  nd : (Kf st.1).Nodup
  pre : ∃ more, st.1 = ks ++ more
  kf : Kf st.1 = Kf ks ++ fo.map (·.1)
  sn : st.2 = fo.map (·.1)
  fr : ∀ q ∈ fo, (∃ x ∈ p, q.1 ∈ f x.1 ∧ q.2 = x.2 ++ [q.1] ∧ (q.1, some x.1) ∈ st.1) ∨ (q.1 ∈ u ∧ q.2 = r ++ [q.1] ∧ (q.1, some ar) ∈ st.1)
  cov : ∀ x ∈ p, ∀ y ∈ f x.1, y ∈ Kf st.1
  covu : ∀ y ∈ u, y ∈ Kf st.1
  le : ∀ q ∈ fo, ∀ z ∈ lyR, q.1 ∈ f z.1 → lexLe lt q.2 (z.2 ++ [q.1])
  up : fo.Pairwise fun p q => lexLt lt p.2 q.2
variable {f lt}
theorem fi_in {ks : List (α × Option α)} {p rest : List (α × List α)} {ar : α} {r : List α} {i : Nat} (hf : (f ar).Pairwise lt) (hup : (p ++ (ar, r) :: rest).Pairwise fun p q => lexLt lt p.2 q.2) (hlen : ∀ z ∈ p ++ (ar, r) :: rest, z.2.length = i) :
    ∀ {v u : List α} {st : List (α × Option α) × List α} {fo : List (α × List α)}, u ++ v = f ar → FI f lt ks (p ++ (ar, r) :: rest) p ar r u st fo → ∃ fo', FI f lt ks (p ++ (ar, r) :: rest) p ar r (f ar) (inL ar st v) fo'
  | [], u, st, fo, e, h => ⟨fo, by rw [← e, List.append_nil]; exact h⟩
  | y :: v, u, st, fo, e, h => by
    rw [List.pairwise_append] at hup
    obtain ⟨u1, u2, u3⟩ := hup
    rw [List.pairwise_cons] at u2
    show ∃ fo', FI f lt ks (p ++ (ar, r) :: rest) p ar r (f ar) (inL ar (inn ar st y) v) fo'
    have e2 : (u ++ [y]) ++ v = f ar := by rw [List.append_assoc]; exact e
    unfold inn
    by_cases hy : y ∈ Kf st.1
    · rw [if_pos hy]
      refine fi_in hf (List.pairwise_append.mpr ⟨u1, List.pairwise_cons.mpr u2, u3⟩) hlen e2 ⟨h.nd, h.pre, h.kf, h.sn, fun q hq => ?_, h.cov, fun z hz => ?_, h.le, h.up⟩
      · rcases h.fr q hq with z | ⟨z1, z2⟩
        · exact .inl z
        · exact .inr ⟨List.mem_append_left _ z1, z2⟩
      · rcases List.mem_append.mp hz with hz | hz
        · exact h.covu z hz
        · rw [List.mem_singleton.mp hz]; exact hy
    · rw [if_neg hy]
      have hyf : y ∈ f ar := by rw [← e]; simp
      have hk : Kf (st.1 ++ [(y, some ar)]) = Kf st.1 ++ [y] := by simp
      refine fi_in (fo := fo ++ [(y, r ++ [y])]) hf (List.pairwise_append.mpr ⟨u1, List.pairwise_cons.mpr u2, u3⟩) hlen e2 ⟨?_, ?_, ?_, ?_, ?_, ?_, ?_, ?_, ?_⟩
      · rw [hk]
        exact nodup_app h.nd (by simp) fun z hz => by rw [List.mem_singleton.mp hz]; exact hy
      · obtain ⟨more, em⟩ := h.pre
        exact ⟨more ++ [(y, some ar)], by show st.1 ++ _ = _; rw [em, List.append_assoc]⟩
      · show Kf (st.1 ++ [(y, some ar)]) = _
        rw [hk, h.kf]; simp
      · show st.2 ++ [y] = _
        rw [h.sn]; simp
      · intro q hq
        rcases List.mem_append.mp hq with hq | hq
        · rcases h.fr q hq with ⟨x, hx, a1, a2, a3⟩ | ⟨a1, a2, a3⟩
          · exact .inl ⟨x, hx, a1, a2, List.mem_append_left _ a3⟩
          · exact .inr ⟨List.mem_append_left _ a1, a2, List.mem_append_left _ a3⟩
        · rw [List.mem_singleton.mp hq]
          exact .inr ⟨by simp, rfl, by simp⟩
      · intro x hx z hz
        show z ∈ Kf (st.1 ++ [(y, some ar)])
        rw [hk]
        exact List.mem_append_left _ (h.cov x hx z hz)
      · intro z hz
        show z ∈ Kf (st.1 ++ [(y, some ar)])
        rw [hk]
        rcases List.mem_append.mp hz with hz | hz
        · exact List.mem_append_left _ (h.covu z hz)
        · exact List.mem_append_right _ hz
      · intro q hq z hz hm
        rcases List.mem_append.mp hq with hq | hq
        · exact h.le q hq z hz hm
        · rw [List.mem_singleton.mp hq] at hm ⊢
          rcases List.mem_append.mp hz with hz2 | hz2
          · exact absurd (h.cov z hz2 y hm) hy
          · rcases List.mem_cons.mp hz2 with rfl | hz3
            · exact lexLe_refl lt _
            · exact lexLt_le_app (by rw [hlen z hz, hlen (ar, r) (by simp)]) (u2.1 z hz3)
      · rw [List.pairwise_append]
        refine ⟨h.up, by simp, fun q hq q2 hq2 => ?_⟩
        rw [List.mem_singleton.mp hq2]
        rcases h.fr q hq with ⟨x, hx, a1, a2, a3⟩ | ⟨a1, a2, a3⟩
        · rw [a2]
          exact lexLt_app (u3 x hx (ar, r) (by simp))
        · rw [a2]
          refine lexLt_snoc ?_ r
          rw [← e, List.pairwise_append] at hf
          exact hf.2.2 _ a1 y (by simp)
theorem fi_out {ks : List (α × Option α)} {i : Nat} (hf : ∀ x, (f x).Pairwise lt) : ∀ {rest p : List (α × List α)} {st : List (α × Option α) × List α} {fo : List (α × List α)} {ar : α} {r : List α}, (p ++ rest).Pairwise (fun p q => lexLt lt p.2 q.2) → (∀ z ∈ p ++ rest, z.2.length = i) → FI f lt ks (p ++ rest) p ar r [] st fo →
    ∃ fo', FI f lt ks (p ++ rest) (p ++ rest) ar r [] (outL f st (rest.map (·.1))) fo'
  | [], p, st, fo, ar, r, _, _, h => ⟨fo, by rw [List.append_nil] at h ⊢; exact h⟩
  | (x, t) :: rest, p, st, fo, ar, r, hup, hlen, h => by
    have h1 : FI f lt ks (p ++ (x, t) :: rest) p x t [] st fo := ⟨h.nd, h.pre, h.kf, h.sn, (fun q hq => (h.fr q hq).elim Or.inl fun z => nomatch z.1), h.cov, (fun y hy => nomatch hy), h.le, h.up⟩
    obtain ⟨fo1, h2⟩ := fi_in (hf x) hup hlen (List.nil_append _) h1
    have ea : p ++ (x, t) :: rest = (p ++ [(x, t)]) ++ rest := by simp
    have h3 : FI f lt ks ((p ++ [(x, t)]) ++ rest) (p ++ [(x, t)]) ar r [] (inL x st (f x)) fo1 := by
      refine ⟨h2.nd, h2.pre, h2.kf, h2.sn, fun q hq => ?_, fun z hz y hy => ?_, fun y hy => (by cases hy), by rw [← ea]; exact h2.le, h2.up⟩
      · rcases h2.fr q hq with ⟨z, hz, a⟩ | ⟨a1, a2, a3⟩
        · exact .inl ⟨z, List.mem_append_left _ hz, a⟩
        · exact .inl ⟨(x, t), by simp, a1, a2, a3⟩
      · rcases List.mem_append.mp hz with hz | hz
        · exact h2.cov z hz y hy
        · rw [List.mem_singleton.mp hz] at hy
          exact h2.covu y hy
    rw [ea] at hup hlen ⊢
    exact fi_out hf hup hlen h3
theorem ri_start (a : α) : RI f lt a 0 [(a, none)] [(a, [a])] := by
  have hl : Least f lt a a [a] := ⟨.one, fun s p => by
    obtain ⟨m, e, w⟩ := p.walk
    rcases p.uncons with ⟨rfl, _⟩ | ⟨_, t, rfl, _, q⟩
    · exact .inr ⟨rfl, lexLe_refl lt _⟩
    · obtain ⟨u, e2, _⟩ := q.walk
      exact .inl (by simp [e2])⟩
  refine ⟨bi_start f a, fun x hx => ?_, fun p hp => ?_, by simp, fun m x hm w => ?_, fun x w _ => ?_⟩
  · simp at hx
    subst hx
    exact ⟨[x], .one (by simp), hl, Nat.le_refl _⟩
  · simp at hp
    subst hp
    exact ⟨.one (by simp), hl, rfl⟩
  · obtain rfl : m = 0 := by omega
    cases w
    simp
  · cases w
    simp
theorem ri_step (hf : ∀ x, (f x).Pairwise lt) (tr : ∀ x y z : α, lt x y → lt y z → lt x z) {a : α} {i : Nat} {ks : List (α × Option α)} {ly : List (α × List α)} (h : RI f lt a i ks ly) : ∃ fo, RI f lt a (i + 1) (outL f (ks, []) (ly.map (·.1))).1 fo ∧ fo.map (·.1) = (outL f (ks, []) (ly.map (·.1))).2 := by
  obtain ⟨fo, F⟩ := fi_out (i := i + 1) (p := []) (rest := ly) (st := (ks, [])) (fo := []) (ar := a) (r := []) hf h.up (fun z hz => (h.ro z hz).2.2) ⟨h.bi.nd, ⟨[], (List.append_nil ks).symm⟩, (List.append_nil _).symm, rfl, (fun q hq => nomatch hq), (fun q hq => nomatch hq), (fun q hq => nomatch hq), (fun q hq => nomatch hq), .nil⟩
  have bi := bi_step f h.bi
  rw [List.nil_append] at F
  generalize hS : outL f (ks, []) (ly.map (·.1)) = S at F bi ⊢
  obtain ⟨more, em⟩ := F.pre
  have hnew : ∀ q ∈ fo, q.1 ∉ Kf ks := fun q hq z => by
    have nd := F.nd
    rw [F.kf, List.nodup_append] at nd
    exact nd.2.2 _ z _ (List.mem_map.mpr ⟨q, hq, rfl⟩) rfl
  have far : ∀ q ∈ fo, ∀ z m, Walk f a m z → q.1 ∈ f z → i ≤ m := fun q hq z m w hz => by
    rcases Nat.lt_or_ge m i with k | k
    · exact absurd (h.al (m + 1) q.1 (by omega) (.succ w hz)) (hnew q hq)
    · exact k
  have lay : ∀ z, Walk f a i z → (∀ m, m < i → ¬ Walk f a m z) → ∃ t, (z, t) ∈ ly := fun z w hn => by
    obtain ⟨p, hp, e⟩ := List.mem_map.mp (h.ly z w hn)
    exact ⟨p.2, by rw [← e]; exact hp⟩
  have ro : ∀ q ∈ fo, PRow S.1 a q.1 q.2 ∧ Least f lt a q.1 q.2 ∧ q.2.length = i + 1 + 1 := fun q hq => by
    rcases F.fr q hq with ⟨x, hx, a1, a2, a3⟩ | ⟨z, _⟩
    · obtain ⟨p1, p2, p3⟩ := h.ro x hx
      have el : q.2.length = i + 1 + 1 := by rw [a2, List.length_append, p3]; rfl
      refine ⟨?_, ⟨?_, fun s ps => ?_⟩, el⟩
      · rw [a2, em]
        rw [em] at a3
        exact .snoc a3 p1.mono
      · rw [a2]; exact .snoc p2.1 a1
      · cases ps with
        | one => exact absurd h.bi.st (hnew q hq)
        | @snoc z _ t pt hz =>
          obtain ⟨m, et, wt⟩ := pt.walk
          have hm := far q hq z m wt hz
          rcases Nat.lt_or_ge i m with k | k
          · exact .inl (by rw [el, List.length_append, et]; simp; omega)
          · obtain rfl : m = i := by omega
            obtain ⟨t', ht'⟩ := lay z wt fun m' hm' w' => by
              have := far q hq z m' w' hz
              omega
            obtain ⟨_, l1, l2⟩ := h.ro _ ht'
            refine .inr ⟨by rw [el, List.length_append, et]; rfl, lexLe_trans tr (F.le q hq _ ht' hz) (lexLe_snoc ?_)⟩
            rcases l1.2 t pt with z1 | ⟨_, z1⟩
            · have l3 : t'.length = _ := l2
              have z3 : t'.length < t.length := z1
              omega
            · exact z1
    · cases z
  have al : ∀ m x, m ≤ i + 1 → Walk f a m x → x ∈ Kf S.1 := fun m x hm w => by
    rw [F.kf]
    rcases Nat.lt_or_ge i m with k | k
    · obtain rfl : m = i + 1 := by omega
      cases w with
      | @succ _ z _ wz hx =>
        by_cases hz : ∃ m', m' < i ∧ Walk f a m' z
        · obtain ⟨m', hm', w'⟩ := hz
          exact List.mem_append_left _ (h.al (m' + 1) x (by omega) (.succ w' hx))
        · obtain ⟨t, ht⟩ := lay z wz fun m' hm' w' => hz ⟨m', hm', w'⟩
          rw [← F.kf]
          exact F.cov _ ht x hx
    · exact List.mem_append_left _ (h.al m x k w)
  refine ⟨fo, ⟨?_, fun x hx => ?_, ro, F.up, al, fun x w hn => ?_⟩, F.sn.symm⟩
  · rw [← F.sn]; exact bi
  · rw [F.kf] at hx
    rcases List.mem_append.mp hx with hx | hx
    · obtain ⟨r, r1, r2, r3⟩ := h.go x hx
      exact ⟨r, by rw [em]; exact r1.mono, r2, by omega⟩
    · obtain ⟨q, hq, rfl⟩ := List.mem_map.mp hx
      obtain ⟨r1, r2, r3⟩ := ro q hq
      exact ⟨q.2, r1, r2, by omega⟩
  · have hx := al (i + 1) x (Nat.le_refl _) w
    rw [F.kf] at hx
    rcases List.mem_append.mp hx with hx | hx
    · obtain ⟨r, _, r2, r3⟩ := h.go x hx
      obtain ⟨m, em, wm⟩ := r2.1.walk
      exact absurd wm (hn m (by omega))
    · exact hx
theorem itL_ri (hf : ∀ x, (f x).Pairwise lt) (tr : ∀ x y z : α, lt x y → lt y z → lt x z) (a : α) : ∀ i, ∃ ly, RI f lt a i (itL f a i).1 ly ∧ ly.map (·.1) = (itL f a i).2
  | 0 => ⟨_, ri_start a, rfl⟩
  | i + 1 => by
    obtain ⟨ly, h, e⟩ := itL_ri hf tr a i
    have z := ri_step hf tr h
    rw [e] at z
    exact z
end
end DL

end
section
set_option maxHeartbeats 2000000
namespace DL
def ltp (a b : Int × Int) : Prop := a.1 < b.1 ∨ (a.1 = b.1 ∧ a.2 < b.2)
theorem ltp_tr (x y z : Int × Int) (h : ltp x y) (k : ltp y z) : ltp x z := by unfold ltp at *; omega
theorem ltp_as (x y : Int × Int) (h : ltp x y) : ¬ ltp y x := by unfold ltp at *; omega
theorem sortP_lt {l : List (Int × Int)} (h : l.Nodup) : (sortP l).Pairwise ltp := by
  have h1 := sortP_up l
  have h2 : (sortP l).Nodup := (sortP_perm l).nodup_iff.mpr h
  refine (h1.and h2).imp ?_
  rintro ⟨a, b⟩ ⟨c, d⟩ ⟨h, k⟩
  rw [leP_iff] at h
  unfold ltp
  simp only at h ⊢
  rcases Decidable.em (a = c) with e | e
  · rcases Decidable.em (b = d) with e2 | e2
    · exact absurd (by rw [e, e2]) k
    · omega
  · omega
theorem once_nd {n : Nat} {ts : List (Int × Int)} {a b : Int} : (awayL n ts a b ++ towardL n ts a b).Nodup := by
  refine nodup_app ?_ ?_ fun p hp hq => ?_
  · unfold awayL
    exact List.pairwise_map.mpr (((near_up n ts a).filter _).imp fun {x y} h e => by cases e; omega)
  · unfold towardL
    exact List.pairwise_map.mpr (((near_up n ts b).filter _).imp fun {x y} h e => by cases e; omega)
  · obtain ⟨e1, _⟩ := toward_mem.mp hp
    obtain ⟨_, _, _, e2, _⟩ := away_mem.mp hq
    exact e2 e1
theorem stp_up (n : Nat) (ts : List (Int × Int)) (x : Int × Int) : (stp n ts x).Pairwise ltp := sortP_lt once_nd
abbrev LeastC (n : Nat) (ts : List (Int × Int)) (a b : Int × Int) (r : List (Int × Int)) : Prop := Least (stp n ts) ltp a b r
theorem chain_go {n : Nat} {ts : List (Int × Int)} (hn : n ≤ 24) (ht : Tied n ts) {a b : Int × Int} (h : adj ts a.1 a.2 = true) (hb : b ∈ Kf (aheadK n ts a)) : ∃ r, PRow (aheadK n ts a) a b r ∧ LeastC n ts a b r ∧ r.length ≤ 601 := by
  obtain ⟨ly, R, _⟩ := itL_ri (lt := ltp) (stp_up n ts) ltp_tr a 600
  have e : (itL (stp n ts) a 600).1 = aheadK n ts a := by unfold aheadK; rfl
  rw [e] at R
  exact R.go b hb
theorem chain_uniq {n : Nat} {ts : List (Int × Int)} {a b : Int × Int} {r s : List (Int × Int)} (h : LeastC n ts a b r) (k : LeastC n ts a b s) : r = s := least_uniq ltp_as h k
theorem least_reach {n : Nat} {ts : List (Int × Int)} {a b : Int × Int} {r : List (Int × Int)} (h : LeastC n ts a b r) : Reach (stp n ts) a b := by
  obtain ⟨m, _, w⟩ := h.1.walk
  exact ⟨m, w⟩
/-! the law's distances -/
theorem dist_walk {n : Nat} {ts : List (Int × Int)} (hn : n ≤ 24) (ht : Tied n ts) {b x : Int × Int} (h : adj ts b.1 b.2 = true) {k : Nat} (w : Walk (stp n ts) b k x) : ∃ d, (x, d) ∈ distK n ts b ∧ d ≤ k := by
  unfold distK
  exact li_end _ (dsL_li (stp n ts) b 600) (Nat.le_trans (dsL_bd hn ht h 600) (by decide)) w
theorem dist_nd {n : Nat} {ts : List (Int × Int)} {b : Int × Int} : ((distK n ts b).map (·.1)).Nodup := by
  unfold distK
  exact (dsL_li (stp n ts) b 600).nd
theorem dist_is {n : Nat} {ts : List (Int × Int)} {b x : Int × Int} {d : Nat} (hm : (x, d) ∈ distK n ts b) : Walk (stp n ts) b d x := by
  unfold distK at hm
  exact (dsL_li (stp n ts) b 600).wk _ hm
theorem nd_fun {α β : Type} {ks : List (α × β)} (h : (ks.map (·.1)).Nodup) {x : α} {d e : β} (h1 : (x, d) ∈ ks) (h2 : (x, e) ∈ ks) : d = e := by
  induction ks with
  | nil => cases h1
  | cons p r ih =>
    rw [List.map_cons, List.nodup_cons] at h
    rcases List.mem_cons.mp h1 with z1 | z1 <;> rcases List.mem_cons.mp h2 with z2 | z2
    · rw [← z1] at z2; cases z2; rfl
    · exact absurd (List.mem_map.mpr ⟨_, z2, rfl⟩) (by rw [← z1] at h; exact h.1)
    · exact absurd (List.mem_map.mpr ⟨_, z1, rfl⟩) (by rw [← z2] at h; exact h.1)
    · exact ih h.2 z1 z2
theorem dist_min {n : Nat} {ts : List (Int × Int)} (hn : n ≤ 24) (ht : Tied n ts) {b x : Int × Int} (h : adj ts b.1 b.2 = true) {d : Nat} (hm : (x, d) ∈ distK n ts b) {m : Nat} (w : Walk (stp n ts) b m x) : d ≤ m := by
  obtain ⟨e, he, hle⟩ := dist_walk hn ht h w
  rw [nd_fun dist_nd hm he]
  exact hle
def farI (ks : List ((Int × Int) × Nat)) (x : Int × Int) : Int := ((ks.find? fun p => decide (p.1 = x)).map fun p => (p.2 : Int)).getD (-1)
theorem farI_lk {ks : List ((Int × Int) × Nat)} {x : Int × Int} : (lk (dM nD ks) x).getD (.int (-1)) = .int (farI ks x) := by
  unfold lk dM farI
  rw [List.find?_map]
  show ((((ks.find? fun p => decide (p.1 = x)).map _).map _).getD _) = _
  cases ks.find? fun p => decide (p.1 = x) with
  | none => rfl
  | some p => rfl
theorem farI_iff {ks : List ((Int × Int) × Nat)} (hn : (ks.map (·.1)).Nodup) {x : Int × Int} {m : Nat} : farI ks x = (m : Int) ↔ (x, m) ∈ ks := by
  unfold farI
  cases e : ks.find? fun p => decide (p.1 = x) with
  | none =>
    simp only [Option.map_none, Option.getD_none]
    constructor
    · intro z; omega
    · intro z
      have := List.find?_eq_none.mp e _ z
      simp at this
  | some p =>
    have h1 := List.mem_of_find?_eq_some e
    have h2 := List.find?_some e
    have h2 : p.1 = x := of_decide_eq_true h2
    simp only [Option.map_some, Option.getD_some]
    constructor
    · intro z
      have : p = (x, m) := Prod.ext h2 (by have z : (p.2 : Int) = m := z; simp; omega)
      rwa [← this]
    · intro z
      have h1 : (x, p.2) ∈ ks := by rw [← h2]; exact h1
      rw [nd_fun hn h1 z]
/-- the law's list of what comes nearer -/
def nearK (n : Nat) (ts : List (Int × Int)) (b x : Int × Int) (m : Nat) : List (Int × Int) := (stp n ts x).filter fun y => decide (farI (distK n ts b) y = (m : Int))
theorem near_step {n : Nat} {ts : List (Int × Int)} (hn : n ≤ 24) (ht : Tied n ts) {b x : Int × Int} (h : adj ts b.1 b.2 = true) {m : Nat} (hx : (x, m + 1) ∈ distK n ts b) :
    ∃ g rest, nearK n ts b x m = g :: rest ∧ (g, m) ∈ distK n ts b ∧ ∀ r, Gr (stp n ts) ltp b m g r → Gr (stp n ts) ltp b (m + 1) x (x :: r) := by
  have wx := dist_is hx
  have hxa := reach_adj h ⟨_, wx⟩
  have key : ∀ y, y ∈ nearK n ts b x m ↔ y ∈ stp n ts x ∧ Walk (stp n ts) y m b := fun y => by
    unfold nearK
    rw [List.mem_filter, decide_eq_true_iff, farI_iff dist_nd]
    constructor
    · rintro ⟨h1, h2⟩
      exact ⟨h1, walk_sym ht h (dist_is h2)⟩
    · rintro ⟨h1, h2⟩
      refine ⟨h1, ?_⟩
      have hya := once_adj (x := y.1) (y := y.2) h1
      have wy := walk_sym ht hya h2
      obtain ⟨d, hd, hle⟩ := dist_walk hn ht h wy
      have := dist_min hn ht h hx (walk_sym ht hxa (walk_cons h1 (walk_sym ht h (dist_is hd))))
      obtain rfl : d = m := by omega
      exact hd
  have hne : ∃ y, y ∈ nearK n ts b x m := by
    obtain ⟨r, p, e⟩ := (walk_sym ht h wx).path
    rcases p.uncons with ⟨rfl, _⟩ | ⟨y, s, rfl, hy, ps⟩
    · simp at e
    · obtain ⟨k, ek, wk⟩ := ps.walk
      rw [List.length_cons] at e
      obtain rfl : k = m := by omega
      exact ⟨y, (key y).mpr ⟨hy, wk⟩⟩
  have hup : (nearK n ts b x m).Pairwise ltp := (stp_up n ts x).filter _
  cases hl : nearK n ts b x m with
  | nil => rw [hl] at hne; obtain ⟨_, z⟩ := hne; cases z
  | cons g rest =>
    have hg : g ∈ nearK n ts b x m := by rw [hl]; simp
    obtain ⟨g1, g2⟩ := (key g).mp hg
    have hgm : (g, m) ∈ distK n ts b := by
      unfold nearK at hg
      rw [List.mem_filter, decide_eq_true_iff, farI_iff dist_nd] at hg
      exact hg.2
    refine ⟨g, rest, rfl, hgm, fun r hr => .succ g1 g2 (fun y hy hw => ?_) hr⟩
    have := (key y).mpr ⟨hy, hw⟩
    rw [hl] at this hup
    rcases List.mem_cons.mp this with z | z
    · exact .inl z.symm
    · exact .inr ((List.pairwise_cons.mp hup).1 y z)
theorem prow_last {α : Type} [DecidableEq α] {ks : List (α × Option α)} {a x : α} {r : List α} (h : PRow ks a x r) : ∃ q, r = q ++ [x] := by
  cases h with
  | one _ => exact ⟨[], rfl⟩
  | snoc _ _ => exact ⟨_, rfl⟩
theorem prow_start {α : Type} [DecidableEq α] {ks : List (α × Option α)} (hn : (Kf ks).Nodup) {a : α} (ha : (a, none) ∈ ks) {r : List α} (h : PRow ks a a r) : r = [a] := by
  cases h with
  | one _ => rfl
  | snoc h _ => cases nd_fun hn h ha
theorem prow_none {α : Type} [DecidableEq α] {ks : List (α × Option α)} {a x : α} {r : List α} (h : PRow ks a x r) : (a, none) ∈ ks := by
  induction h with
  | one h => exact h
  | snoc _ _ ih => exact ih
theorem prow_back {α : Type} [DecidableEq α] {ks : List (α × Option α)} {a x : α} {q : List α} (h : PRow ks a x (q ++ [x])) (hx : x ≠ a) : ∃ q2 y, q = q2 ++ [y] ∧ (x, some y) ∈ ks ∧ PRow ks a y (q2 ++ [y]) := by
  generalize hr : q ++ [x] = r at h
  cases h with
  | one _ => exact absurd rfl hx
  | @snoc _ y r' h1 h2 =>
    have e : q = r' := List.append_cancel_right hr
    subst e
    obtain ⟨q2, e⟩ := prow_last h2
    subst e
    exact ⟨q2, y, rfl, h1, h2⟩
theorem least_self {n : Nat} {ts : List (Int × Int)} {a : Int × Int} : LeastC n ts a a [a] := (ri_start (f := stp n ts) (lt := ltp) a).ro (a, [a]) (by simp) |>.2.1
theorem chain_has {n : Nat} {ts : List (Int × Int)} (hn : n ≤ 24) (ht : Tied n ts) {a b : Int × Int} (h : adj ts a.1 a.2 = true) (r : Reach (stp n ts) a b) : ∃ s, LeastC n ts a b s ∧ s.length ≤ 601 := by
  obtain ⟨s, _, h2, h3⟩ := chain_go hn ht h ((bi_end _ (ahead_bi hn ht h) b).mpr r)
  exact ⟨s, h2, h3⟩
end DL

end
section
set_option maxHeartbeats 4000000
namespace Pn
open PySem PySem.Spec L2 DL
abbrev rChain (c : At) (ar : Addr) : List D → (Out → Prop) → Prop := fun ds post => ∃ (n : Nat) (ts : List (Int × Int)) (p q : Int × Int), ds = [netD c n ts, dP p, dP q] ∧ (n ≤ 24 ∧ Tied n ts ∧ (Bd p.1 ∧ Bd p.2) ∧ Bd q.1 ∧ Bd q.2) ∧ (adj ts p.1 p.2 = true → adj ts q.1 q.2 = true → (¬ Reach (stp n ts) p q → post (.ret .non)) ∧ ∀ r, LeastC n ts p q r → post (.ret (.lst (r.map dP)))) ∧ ((adj ts p.1 p.2 && adj ts q.1 q.2) = false → post (.exc ar))
section
variable {P : Program} {w : World} {K : PySem.W.Frag} {mg : Str → Option Value} {base : Heap} {c : At} {ar : Addr}
abbrev schain : Stmt := top 24
theorem scchain : FnScope ["net", "one", "other", "ahead", "row"] ["net", "one", "other"] (defScope schain) := ⟨rfl, rfl, rfl, by decide +kernel, rfl, by decide +kernel, by decide +kernel⟩
theorem ok_chain {f : Addr} {fd : FuncData} (F : Fun K "chain" "chain" schain f fd) (T : LawK K mg c) (gNeedA : FnC P w K mg base (L2N.CX P w) 4 "_need_arrow" (rNeedA c ar)) (gAhead : FnC P w K mg base CX0 5 "_ahead" (rAhead c)) : FnOk P w K mg base (L2N.CX P w) 6 f fd ["net", "one", "other"] (spW K (rChain c ar)) := by
  have nd := scchain.nd
  refine fn_okWX F scchain (by rintro _ _ ⟨_, _, _, _, rfl, _⟩; rfl) (by decide) ?_
  rintro X _ post ⟨cdv, A, outer, s, H, E, rfl⟩ hr ⟨n, ts, p, q, rfl, ⟨hn, ht, ⟨ha, hb⟩, ha2, hb2⟩, hp, hq⟩
  refine sxo_cons (sx_exprX (exr_call (post := fun o => (o = .ret .non ∧ adj ts p.1 p.2 = true) ∨ (o = .exc ar ∧ adj ts p.1 p.2 = false)) gNeedA (hr.mono (by decide)) (ea_cons (ex_v 0) (ea_cons (ex_v 1) ea_nil)) (by exact ⟨n, ts, p.1, p.2, rfl, ⟨hn, ht, ha, hb⟩, fun h => .inl ⟨rfl, h⟩, fun h => .inr ⟨rfl, h⟩⟩)) ?_ ?_)
  rotate_left
  · rintro Cl (⟨e, _⟩ | ⟨e, h1⟩)
    · cases e
    · cases e; exact hq (by rw [h1]; rfl)
  rintro d (⟨_, h1⟩ | ⟨e, _⟩)
  rotate_left
  · cases e
  refine sxo_cons (sx_exprX (exr_call (post := fun o => (o = .ret .non ∧ adj ts q.1 q.2 = true) ∨ (o = .exc ar ∧ adj ts q.1 q.2 = false)) gNeedA (hr.mono (by decide)) (ea_cons (ex_v 0) (ea_cons (ex_v 2) ea_nil)) (by exact ⟨n, ts, q.1, q.2, rfl, ⟨hn, ht, ha2, hb2⟩, fun h => .inl ⟨rfl, h⟩, fun h => .inr ⟨rfl, h⟩⟩)) ?_ ?_)
  rotate_left
  · rintro Cl (⟨e, _⟩ | ⟨e, h2⟩)
    · cases e
    · cases e; exact hq (by rw [h2, Bool.and_false])
  rintro d (⟨_, h2⟩ | ⟨e, _⟩)
  rotate_left
  · cases e
  obtain ⟨hp1, hp2⟩ := hp h1 h2
  have bi := ahead_bi hn ht h1
  refine sxo_cons (sx_set 3 nd (ex_call gAhead (hr.mono (by decide)) pass0 (ea_cons (ex_v 0) (ea_cons (ex_v 1) ea_nil)) (by exact ⟨n, ts, p.1, p.2, rfl, ⟨hn, ht, h1⟩, rfl⟩)) ?_)
  refine sxo_cons (sx_if (k := !decide (q ∈ Kf (aheadK n ts p))) ?_ (fun h => ?_) (fun h => sxs_nil ?_))
  · exact TX.to (tx_ninD hr (eb_v 2) (eb_v 3)) (by rw [lk_dM_has])
  · have hno : q ∉ Kf (aheadK n ts p) := by simpa using h
    refine sxs_one (sx_ret ex_non ⟨rfl, hp1 fun r => hno ((bi_end _ bi q).mpr r)⟩)
  · have hyes : q ∈ Kf (aheadK n ts p) := by simpa using h
    obtain ⟨r, r1, r2, r3⟩ := chain_go hn ht h1 hyes
    have hpost := hp2 r r2
    clear hp1 hp2
    have hnd := bi.nd
    have hno := prow_none r1
    obtain ⟨q0, e0⟩ := prow_last r1
    generalize aheadK n ts p = ks at *
    refine sxo_cons (sx_setO 4 nd (eo_lst (ea_cons (ex_v 2) ea_nil)) ?_)
    refine sxo_cons (sx_while (fun m cs => ∃ q' x t, m = q'.length ∧ r = q' ++ x :: t ∧ PRow ks p x (q' ++ [x]) ∧ cs = [.sh (netD c n ts), .sh (dP p), .sh (dP q), .sh (.dic (dM oD ks)), .ol ((t.reverse ++ [x]).map dP)]) (passes_of rfl) q0.length ⟨q0, q, [], rfl, e0, by rw [← e0]; exact r1, rfl⟩ ?_)
    rintro m cs ⟨q', x, t, hm, er, hpr, rfl⟩
    have hlen : (t.reverse ++ [x]).length ≤ 601 := by
      have := congrArg List.length er
      rw [List.length_append, List.length_cons] at this
      rw [List.length_append, List.length_reverse, List.length_singleton]
      omega
    refine ⟨!eqS (dP x) (dP p), (tx_neS hr (eb_ixL (eb_v 4) (EX.bo (ex_neg (EX.bo ex_int))) at_last) (eb_v 1) (sh_dP _) (sh_dP _)), fun h => ?_, fun h => ?_⟩
    · have hx : x ≠ p := fun e => by rw [e, (eqS_iff (sh_dP p) (sh_dP p)).mpr rfl] at h; cases h
      obtain ⟨q2, y, rfl, hy, hpy⟩ := prow_back hpr hx
      refine sxs_one (sx_append 4 rfl (ex_ixD hr (ex_v 3) (eb_ixL (eb_v 4) (EX.bo (ex_neg (EX.bo ex_int))) at_last) (lk_dM oD hnd hy)) (by rw [List.length_map]; omega) (fun _ h1 => ps_expr (pe_bm PySem.F.plainAttrs_list PySem.F.slot_list_append PySem.F.type_list_append mt_append (pv 4) (pa_cons h1 pa_nil))) ⟨q2.length, by rw [hm, List.length_append]; simp, q2, y, x :: t, rfl, by rw [er]; simp, hpy, ?_⟩)
      rw [List.reverse_cons, List.map_append (l₂ := [y])]
      rfl
    · have hx : x = p := by
        have z : eqS (dP x) (dP p) = true := by simpa using h
        exact dP_inj _ _ ((eqS_iff (sh_dP x) (sh_dP p)).mp z)
      subst hx
      have e := prow_start hnd hno hpr
      have e2 : q' = [] := by
        have := congrArg List.length e
        simpa using this
      subst e2
      refine sxo_ret (EO.to (eo_revO 4 rfl) ?_) hpost
      rw [er, ← List.map_reverse]
      simp
end
end Pn

end
section
set_option maxHeartbeats 4000000
namespace Lw
open PySem PySem.Spec L2 DL
abbrev rRef6 (c : Pn.At) : List D → (Out → Prop) → Prop := fun ds post => ∃ (n : Nat) (ts : List (Int × Int)) (p q : Int × Int), ds = [Pn.netD c n ts, dP p, dP q] ∧ (n ≤ 24 ∧ Tied n ts ∧ (Pn.Bd p.1 ∧ Pn.Bd p.2) ∧ Pn.Bd q.1 ∧ Pn.Bd q.2) ∧ (adj ts p.1 p.2 && adj ts q.1 q.2) = false ∧ post (.ret (.bl true))
abbrev rLeast : List D → (Out → Prop) → Prop := fun ds post => ∃ (n : Nat) (ts : List (Int × Int)) (p q : Int × Int), ds = [.dic (dk (bothK ts) fun _ => true), .int n, dP p, dP q] ∧ (n ≤ 24 ∧ Tied n ts ∧ adj ts p.1 p.2 = true ∧ adj ts q.1 q.2 = true) ∧ (¬ DL.Reach (stp n ts) p q → post (.ret .non)) ∧ ∀ r, LeastC n ts p q r → post (.ret (.lst (r.map dP)))
def isFar (n : Nat) (ts : List (Int × Int)) (q : Int × Int) (m : Nat) : D → Bool
  | .tup [.int a, .int b] => decide (farI (distK n ts q) (a, b) = (m : Int))
  | _ => false
theorem isFar_map {n m : Nat} {ts : List (Int × Int)} {q x : Int × Int} : ((((onceL n ts x.1 x.2).map dP).filter (isFar n ts q m)).map fun d => d) = (nearK n ts q x m).map dP := by
  rw [List.map_id', List.filter_map]
  rfl
section
variable {P : Program} {w : World} {K : PySem.W.Frag} {mg : Str → Option Value} {base : Heap} {cl : Nat → Addr} {te : Addr} {is : List Nat} {c : Pn.At} {ar : Addr}
abbrev s_law_least : Stmt := top 57
theorem sc_law_least : FnScope ["_law_both_here", "_law_many", "_law_one", "_law_other", "_law_far", "_law_row", "_law_near_here", "_law_new"] ["_law_both_here", "_law_many", "_law_one", "_law_other"] (defScope s_law_least) := ⟨rfl, rfl, rfl, by decide +kernel, rfl, by decide +kernel, by decide +kernel⟩
theorem ok_least {f : Addr} {fd : FuncData} (F : Fun K "_law_least" "_law_least" s_law_least f fd) (T : Glb mg) (gForces : FnC P w K mg base CX0 1 "_law_forces" rForces) (gDist : FnC P w K mg base CX0 2 "_law_distances" rDist) : FnOk P w K mg base CX0 3 f fd ["_law_both_here", "_law_many", "_law_one", "_law_other"] (spD K rLeast) := by
  have nd := sc_law_least.nd
  refine fn_okD F sc_law_least (by rintro _ _ ⟨_, _, _, _, rfl, _⟩; rfl) (by decide) ?_
  rintro X _ post ⟨cdv, A, outer, s, H, E, rfl⟩ hr ⟨n, ts, p, q, rfl, ⟨hn, ht, h1, h2⟩, hp1, hp2⟩
  refine sxs_cons (sx_set 4 nd (ex_call gDist (hr.mono (by decide)) pass0 (ea_cons (ex_v 0) (ea_cons (ex_v 1) (ea_cons (ex_v 3) ea_nil))) (by exact ⟨n, ts, _, rfl, ⟨hn, ht, h2⟩, rfl⟩)) (sxs_cons (sx_if (k := !decide (p ∈ (distK n ts q).map (·.1))) ?_ (fun h => ?_) (fun h => sxs_nil ?_))))
  · exact TX.to (tx_ninD hr (eb_v 2) (eb_v 4)) (by rw [lk_dM_has])
  · have hno : p ∉ (distK n ts q).map (·.1) := by simpa using h
    refine sxs_one (sx_ret ex_non (hp1 fun r => hno ?_))
    obtain ⟨k, wk⟩ := reach_sym ht h1 r
    obtain ⟨d, hd, _⟩ := dist_walk hn ht h2 wk
    exact List.mem_map.mpr ⟨_, hd, rfl⟩
  · have hyes : p ∈ (distK n ts q).map (·.1) := by simpa using h
    obtain ⟨⟨p', N⟩, hN, ep⟩ := List.mem_map.mp hyes
    have ep : p' = p := ep
    subst ep
    have hre : DL.Reach (stp n ts) p' q := reach_sym ht h2 ⟨N, dist_is hN⟩
    obtain ⟨r0, hr0, hl0⟩ := chain_has hn ht h1 hre
    have hN2 : N ≤ 601 := by
      obtain ⟨k, ek, wk⟩ := hr0.1.walk
      have := dist_min hn ht h2 hN (walk_sym ht h1 wk)
      omega
    have hdN : ∀ k, k < N → ¬ Walk (stp n ts) p' k q := fun k hk w => by
      have := dist_min hn ht h2 hN (walk_sym ht h1 w)
      omega
    refine sxs_cons (sx_setO 5 nd (eo_lst (ea_cons (ex_v 2) ea_nil)) ?_)
    refine sxs_cons (sx_while (fun m cs => ∃ pre x v6 v7, pre.length + m = N ∧ (x, m) ∈ distK n ts q ∧ (∀ r, Gr (stp n ts) ltp q m x r → Gr (stp n ts) ltp q N p' (pre ++ r)) ∧ cs = [.sh (.dic (dk (bothK ts) fun _ => true)), .sh (.int n), .sh (dP p'), .sh (dP q), .sh (.dic (dM nD (distK n ts q))), .ol ((pre ++ [x]).map dP), v6, v7]) .never N ⟨[], p', _, _, by simp, hN, fun r h => h, rfl⟩ ?_)
    rintro m cs ⟨pre, x, v6, v7, hm, hx, hgr, rfl⟩
    have wx := dist_is hx
    have hxa := reach_adj h2 ⟨_, wx⟩
    refine ⟨!eqS (dP x) (dP q), (tx_neS hr (eb_ixL (eb_v 5) (EX.bo (ex_neg (EX.bo ex_int))) at_last) (eb_v 3) (sh_dP _) (sh_dP _)), fun h => ?_, fun h => ?_⟩
    · have hne : x ≠ q := fun e => by rw [e, (eqS_iff (sh_dP q) (sh_dP q)).mpr rfl] at h; cases h
      obtain ⟨k, rfl⟩ : ∃ k, m = k + 1 := by
        cases m with
        | zero => cases wx; exact absurd rfl hne
        | succ k => exact ⟨k, rfl⟩
      obtain ⟨g, rest, hnear, hg, hst⟩ := near_step hn ht h2 hx
      have hol : (onceL n ts x.1 x.2).length ≤ 100 := Nat.le_trans once_len (by omega)
      refine sxs_cons (sx_setR 6 (ro_Lif rfl (fun d => d) (isFar n ts q k) (ex_call gForces (hr.mono (by decide)) pass0 (ea_cons (ex_v 0) (ea_cons (ex_v 1) (ea_cons (ex_ixO 5 rfl (EX.bo (ex_neg (EX.bo ex_int))) at_last) ea_nil))) (by exact ⟨n, ts, _, rfl, hn, rfl⟩)) (by rw [List.length_map]; omega) (fun j d hd => ?_) (fun j d hd hp2 _ _ _ _ _ => ex_v 7)) (ps_setLc (i := 6) (own := [("_law_new", 7)]) (g := gName 7) rfl nd rfl rfl (sw_true rfl rfl rfl (by decide +kernel)) (pi_list pe_w) (blkOk_by (N := ["_law_both_here", "_law_many", "_law_one", "_law_other", "_law_far", "_law_row", "_law_near_here", "_law_new"]) (sc := defScope s_law_least) (by decide +kernel)) (fun _ _ _ _ _ => pg_name (i := 7) nd rfl (by first | exact Or.inl rfl | exact Or.inr rfl)) (pts_u) pe_u) ?_)
      · obtain ⟨y, hy, rfl⟩ := map_at hd
        intro _ _ _ _ _
        refine TX.to (tx_eqI (EX.bo (EX.to (ex_getD hr (ex_v 4) (eb_v 7) (ex_neg (EX.bo ex_int))) farI_lk)) (EX.bo (ex_sub (eb_ixD hr (eb_v 4) (EX.bo (ex_ixO 5 rfl (EX.bo (ex_neg (EX.bo ex_int))) at_last)) (lk_dM nD dist_nd hx)) (EX.bo ex_int)))) ?_
        show decide (farI (distK n ts q) y = ((k + 1 : Nat) : Int) - 1) = decide (farI (distK n ts q) (y.1, y.2) = (k : Int))
        rw [show ((k + 1 : Nat) : Int) - 1 = (k : Int) by omega]
      · rw [isFar_map, hnear]
        refine sxs_frL 6 rfl ?_
        refine sxs_one (sx_append 5 rfl (ex_ixL (ex_v 6) (EX.bo ex_int) (atI_nat (j := 0) rfl)) (by rw [List.length_map, List.length_append, List.length_singleton]; omega) (fun _ h1 => ps_expr (pe_bm PySem.F.plainAttrs_list PySem.F.slot_list_append PySem.F.type_list_append mt_append (pv 5) (pa_cons h1 pa_nil))) ?_)
        refine ⟨k, by omega, pre ++ [x], g, .sh (.lst ((g :: rest).map dP)), v7, by rw [List.length_append, List.length_singleton]; omega, hg, fun r hr => ?_, ?_⟩
        · rw [List.append_assoc]
          exact hgr _ (hst r hr)
        · rw [List.map_append (l₁ := pre ++ [x])]
          rfl
    · have hxq : x = q := by
        have z : eqS (dP x) (dP q) = true := by simpa using h
        exact dP_inj _ _ ((eqS_iff (sh_dP x) (sh_dP q)).mp z)
      subst hxq
      have hm0 : m = 0 := Nat.le_zero.mp (dist_min hn ht h2 hx .zero)
      subst hm0
      obtain ⟨hle, _⟩ := gr_least (hgr _ .zero) hdN
      refine sxs_frL 5 rfl ?_
      refine sxs_one (sx_ret (ex_v 5) ?_)
      exact hp2 _ hle
end
end Lw

end
section
set_option maxHeartbeats 2000000
namespace DL
open PySem PySem.Spec L2 PyProof.Rows
/-- each second one, from the first -/
def oth {α : Type} : List α → List α
  | [] => []
  | [x] => [x]
  | x :: _ :: r => x :: oth r
theorem oth_len {α : Type} : ∀ xs : List α, (oth xs).length ≤ xs.length
  | [] => Nat.le_refl _
  | [_] => Nat.le_refl _
  | x :: _ :: r => by have := oth_len r; simp [oth]; omega
theorem oth_sub {α : Type} : ∀ xs : List α, (oth xs).Sublist xs
  | [] => .refl _
  | [_] => .refl _
  | x :: _ :: r => .cons₂ _ (.cons _ (oth_sub r))
theorem oth_map {α β : Type} (f : α → β) : ∀ xs : List α, oth (xs.map f) = (oth xs).map f
  | [] => rfl
  | [_] => rfl
  | x :: _ :: r => by show f x :: oth (r.map f) = _; rw [oth_map f r]; rfl
theorem oth_pick {α : Type} : ∀ xs : List α, ((List.range ((xs.length + 1) / 2)).map (fun k => 2 * k)).filterMap (fun i => xs[i]?) = oth xs
  | [] => by simp [oth]
  | [x] => by simp [oth, List.range_succ]
  | x :: y :: r => by
    have e : ((x :: y :: r).length + 1) / 2 = (r.length + 1) / 2 + 1 := by simp only [List.length_cons]; omega
    rw [e, List.range_succ_eq_map, List.map_cons, List.map_map, List.filterMap_cons]
    show x :: _ = x :: oth r
    rw [← oth_pick r, List.filterMap_map, List.filterMap_map]
    congr 1
theorem oth_vals : ∀ {xs : List V} {us : List Value}, Vals xs us → Vals (oth xs) (oth us)
  | _, _, .nil => .nil
  | _, _, .cons r .nil => .cons r .nil
  | _, _, .cons r (.cons _ t) => .cons r (oth_vals t)
theorem oth_rep {K : PySem.W.Frag} {H : Hp} : ∀ {vs : List V} {ds : List D}, RepA K H vs ds → RepA K H (oth vs) (oth ds)
  | _, _, .nil => .nil
  | _, _, .cons r .nil => .cons r .nil
  | _, _, .cons r (.cons _ t) => .cons r (oth_rep t)
theorem oth_slice (items : Array Value) : slicePick items none none (some 2) = (oth items.toList).toArray := by
  unfold slicePick
  have hb : sliceBounds none none (some 2) items.size = (0, (items.size : Int), 2) := by
    first
    | rfl
    | simp [sliceBounds]
  rw [hb]
  show ((sliceRange 0 (items.size : Int) 2).filterMap (items[·]?)).toArray = _
  have hr : sliceRange 0 (items.size : Int) 2 = (List.range ((items.toList.length + 1) / 2)).map fun k => 2 * k := by
    unfold sliceRange
    rw [if_pos (by decide)]
    have e : (if (0 : Int) < (items.size : Int) then ((items.size : Int) - 0 + 2 - 1) / 2 else 0).toNat = (items.toList.length + 1) / 2 := by
      rw [Array.length_toList]
      split <;> omega
    show (List.range (if (0 : Int) < (items.size : Int) then ((items.size : Int) - 0 + 2 - 1) / 2 else 0).toNat).map (fun k : Nat => ((0 : Int) + 2 * (k : Int)).toNat) = _
    rw [e]
    refine List.map_congr_left fun k _ => ?_
    omega
  rw [hr, ← oth_pick]
  refine congrArg List.toArray (congrArg (fun g => List.filterMap g _) (funext fun i => ?_))
  simp
def tOth (K : PySem.W.Frag) (te : TE) : TE := fun σ H Q => te σ H fun x H1 => ∃ a xs, x = .ref a ∧ SqL K H1 a xs ∧ ∀ p, H1 p = none → Q (.ref p) (upd H1 p (.lst (oth xs)))
theorem pe_oth {X : Cx} {e : Expr} {te : TE} {k : Nat} {p1 p3 pos : Pos} (he : PE X e te) : PE X (.Subscript e (.Slice none none (some (.Constant (.int 2) k p1)) p3) pos) (tOth X.K te) := by
  refine ⟨fun pins s σ H Q I h => ?_⟩
  refine Subscript_ (thn (he.run pins s σ H _ I h) fun v s1 ⟨x, H1, I1, r1, q1⟩ => ?_)
  obtain ⟨a, xs, ex, hx, q⟩ := q1
  subst ex
  cases r1
  have hst : PO X (some (.Constant (.int 2) k p1)) (tPart (tC (.int 2))) := po_some pe_int
  refine wpAny_Slice (thn (po_none.run pins s1 σ H1 (fun o H2 => o = none ∧ H2 = H1) I1 ⟨rfl, rfl⟩) fun vl s2 ⟨l, H2, I2, pl, el, e2⟩ => ?_)
  subst el e2
  refine thn (po_none.run pins s2 σ H2 (fun o H3 => o = none ∧ H3 = H2) I2 ⟨rfl, rfl⟩) fun vu s3 ⟨u, H3, I3, pu, eu, e3⟩ => ?_
  subst eu e3
  refine thn (hst.run pins s3 σ H3 (fun o H4 => o = some 2 ∧ H4 = H3) I3 ⟨2, rfl, rfl, rfl⟩) fun vs s4 ⟨o, H4, I4, ps, eo, e4⟩ => ?_
  subst eo e4
  have I5 : Inv X pins σ H4 { s4 with heap := s4.heap.push { cls := .type "slice", data := .fields #[vl, vu, vs] } } := I4.kept (t' := s4.toks) fun b ob q => Heap.get?_push_of_some _ q
  obtain ⟨its, r, ht, hz⟩ := I5.list hx
  have hlen := r.length
  show wpAny (model X.prog X.w) X.A (subscriptTail e (.Slice none none (some (.Constant (.int 2) k p1)) p3) (.ref a) (.ref s4.heap.objs.size)) (EP X pins σ Q) X.xe { s4 with heap := s4.heap.push { cls := .type "slice", data := .fields #[vl, vu, vs] } }
  refine tail_any (ops := [.ref a, .ref s4.heap.objs.size]) ht.isList.typeIs (PySem.slot_list_getitem.lookup) ?_ (by with_unfolding_all rfl)
  refine wpAny_getItem_list_slice ht.isList (Heap.IsSliceOf.new _ vl vu vs) pl pu ps (by decide) ?_ (by rw [List.size_toArray]; omega)
  rw [oth_slice]
  refine ⟨.ref _, _, I5.laid (t' := s4.toks) (o := .lst (oth xs)) (fun b ob q => Heap.get?_push_of_some _ q) (Nat.le_refl _) ?_, rfl, q _ (I5.hok.fresh (Nat.le_refl _))⟩
  exact ⟨Nat.le_trans (oth_len xs) hz, _, 0, oth_vals r, Heap.get?_push_size _ rfl⟩
/-- xs[::2] -/
theorem eo_oth {X : Cx} {cs : List C} {e : Expr} {ds : List D} {k : Nat} {p1 p3 pos : Pos} (ha : EX X cs e (.lst ds)) : EO X cs (.Subscript e (.Slice none none (some (.Constant (.int 2) k p1)) p3) pos) (oth ds) := fun He Hb H0 H σ Q s q =>
  wE_of (pe_oth pe_w) (ha _ _ _ _ _ _ s fun x H1 H01 g1 r1 => by
    cases r1 with
    | lst hl r => exact ⟨_, _, rfl, SqL.of (g1.i _ _ hl), fun l hn => q l _ _ _ (g1.trans (Grow.own g1.i hn)) (g1.h.free hn) (g1.i.free hn) upd_same (oth_rep r)⟩)
end DL

end
section
set_option maxHeartbeats 2000000
namespace DL
open PySem PySem.Spec L2
/-! statements that may end by the return of something new; R tells it -/
abbrev RT := Hp → V → Hp → Hp → Prop
def SXq (X : Cx) (cs : List C) (sts : List Stmt) (F : DE) (R : RT) : Prop := ∀ (He Hb H0 H : Hp) (σ : St) (E : Ends), SR X.K He Hb H0 H σ cs → DEnd X He Hb H0 F E → (∀ v H0' H', Grow He Hb H0' H' → R Hb v H0' H' → E.rt v H') → wSs X sts E σ H
section
variable {X : Cx} {cs : List C} {c it : Expr} {A B sts body : List Stmt} {st : Stmt} {pos px py pt : Pos} {F : DE} {R : RT} {ds : List D}
theorem sxq_of (h : SXs X cs sts F) : SXq X cs sts F R := fun He Hb H0 H σ E s q _ => h _ _ _ _ _ _ s q
theorem sxq_no (h : SXq X cs sts F fun _ _ _ _ => False) : SXs X cs sts F := fun He Hb H0 H σ E s q => h _ _ _ _ _ _ s q fun _ _ _ _ z => z.elim
theorem sxq_nil (h : F.nx cs) : SXq X cs [] F R := sxq_of (sxs_nil h)
theorem sxq_cons (h : SX X cs st { F with nx := fun cs' => SXq X cs' sts F R }) : SXq X cs (st :: sts) F R := fun He Hb H0 H σ E s q r =>
  wSs_of (pss_cons ps_w pss_w) (h _ _ _ _ _ { E with nx := fun σ' H' => wSs X sts E σ' H' } s ⟨fun cs' H0' H' σ' b s' z => z _ _ _ _ _ _ s' (q.mono b) r, q.rt, q.bk, q.ct, q.ex⟩)
theorem sxq_one (h : SX X cs st F) : SXq X cs [st] F R := sxq_of (sxs_one h)
theorem sxq_at (cs2 : List C) (e : cs = cs2) (h : SXq X cs2 sts F R) : SXq X cs sts F R := e ▸ h
theorem sxq_frD (i : Nat) {kvs : List ((Int × Int) × D)} (hc : cs[i]? = some (.od kvs)) (h : SXq X (cs.set i (.sh (.dic kvs))) sts F R) : SXq X cs sts F R := fun He Hb H0 H σ E s k r => by
  obtain ⟨H0', e, s'⟩ := s.freezeD hc
  exact h _ _ _ _ _ _ s' (k.mono e) r
theorem sxq_if {k : Bool} (h : TX X cs c k) (hA : k = true → SXq X cs A { F with nx := fun cs' => SXq X cs' sts F R } R) (hB : k = false → SXq X cs B { F with nx := fun cs' => SXq X cs' sts F R } R) : SXq X cs (.If c A B pos :: sts) F R := fun He Hb H0 H σ E s q r =>
  wSs_of (pss_cons (ps_if pt_w pss_w pss_w) pss_w) (h _ _ _ _ _ _ s fun H1 H01 g => by
    have q1 : DEnd X He Hb H01 { F with nx := fun cs' => SXq X cs' sts F R } { E with nx := fun σ' H' => wSs X sts E σ' H' } := ⟨fun cs' H0' H' σ' b s' z => z _ _ _ _ _ _ s' (q.mono (g.b.trans b)) r, q.rt, (q.mono g.b).bk, (q.mono g.b).ct, (q.mono g.b).ex⟩
    cases k with
    | true => exact hA rfl _ _ _ _ _ _ (s.grow g) q1 r
    | false => exact hB rfl _ _ _ _ _ _ (s.grow g) q1 r)
/-- for x, y in a list of pairs -/
theorem sxq_forLU (i k : Nat) {x y : Str} {k0 : Nat} (P : Nat → List C → Prop) (hcl : X.calm = true) (hN : X.N.Nodup) (hp : PassesOwn (model X.prog X.w) X.A X.env X.xe) (hit : EX X cs it (.lst ds)) (ht : ∀ d ∈ ds, ∃ d1 d2, d = .tup [d1, d2]) (h0 : P 0 cs)
    (hs : ∀ j d1 d2 cs', ds[j]? = some (.tup [d1, d2]) → P j cs' → SXq X ((cs'.set i (.sh d1)).set k (.sh d2)) body { F with nx := P (j + 1), ct := P (j + 1), bk := fun cs' => SXq X cs' sts F R } R) (hd : ∀ cs', P ds.length cs' → SXq X cs' sts F R)
    (hi : X.N[i]? = some x := by rfl) (hk : X.N[k]? = some y := by rfl) (hx : Loc X.env.scope x := by first | exact Or.inl rfl | exact Or.inr rfl) (hy : Loc X.env.scope y := by first | exact Or.inl rfl | exact Or.inr rfl)
    (hf : X.fn x = true ∨ X.env.scope.names.lookup x = some .local := by first | exact .inl rfl | exact .inr rfl) (hf2 : X.fn y = true ∨ X.env.scope.names.lookup y = some .local := by first | exact .inl rfl | exact .inr rfl) (hfo : ∀ x, foldedSetIterable it X.env x = pure x := by intro _; rfl)
    (hg : ∀ (t : TGs), PGs X [.Name x px, .Name y py] t → PG X (.Tuple [.Name x px, .Name y py] k0 pt) (gTup X.K 2 t) := by intro t h; exact pg_tup rfl h)
    (hg2 : PGs X [.Name x px, .Name y py] (gCons (gName i) (gCons (gName k) gNil)) := by exact pgs_cons (pg_name (by assumption) rfl (by first | exact Or.inl rfl | exact Or.inr rfl)) (pgs_cons (pg_name (by assumption) rfl (by first | exact Or.inl rfl | exact Or.inr rfl)) pgs_nil)) :
    SXq X cs (.For (.Tuple [.Name x px, .Name y py] k0 pt) it body [] pos :: sts) F R := fun He Hb H0 H σ E s q r0 =>
  wSs_of (pss_cons (ps_for hp hcl (pi_list pe_w) (hg _ hg2) pss_w hfo) pss_w) (hit _ _ _ _ _ _ s fun v H1 H01 g r => by
    cases r with
    | @lst a vs _ hl r =>
      refine ⟨a, rfl, ⟨vs, SqL.of (g.i _ _ hl)⟩, for_list (K := X.K) (a := a) (xs := vs) (fun j σ' H' => ∃ H0' cs', Same H01 H0' ∧ SR X.K He Hb H0' H' σ' cs' ∧ P j cs') ⟨H01, cs, Same.refl _, s.grow g, h0⟩
        (fun j σ' H' _ ⟨H0', cs', e, s', _⟩ => SqL.of (s'.i _ _ (e _ _ hl))) (fun j y σ' H' hj ⟨H0', cs', e, s', hP⟩ => ?_) (fun σ' H' ⟨H0', cs', e, s', hP⟩ => ?_)⟩
      · obtain ⟨d, hd', rd⟩ := r.get hj
        obtain ⟨d1, d2, rfl⟩ := ht d (List.mem_of_getElem? hd')
        cases rd with
        | tup hta rta =>
          cases rta with
          | cons ra rta =>
            cases rta with
            | cons rb rta =>
              cases rta
              refine ⟨_, _, rfl, SqT.of (s'.i _ _ (e _ _ hta)), rfl, _, _, rfl, _, _, rfl, rfl, ?_⟩
              exact hs j d1 d2 cs' hd' hP _ _ _ _ _ _ ((s'.set (ra.mono e)).set (rb.mono e)) ⟨fun cs2 H2 H3 σ3 e2 s2 h2 => ⟨H2, cs2, e.trans e2, s2, h2⟩, q.rt, fun cs2 H2 H3 σ3 e2 s2 h2 => h2 _ _ _ _ _ _ s2 (q.mono ((g.b.trans e).trans e2)) r0, fun cs2 H2 H3 σ3 e2 s2 h2 => ⟨H2, cs2, e.trans e2, s2, h2⟩, (q.mono (g.b.trans e)).ex⟩ r0
      · rw [r.len] at hP
        exact hd cs' hP _ _ _ _ _ _ s' (q.mono (g.b.trans e)) r0)
theorem sxs_forLU (i k : Nat) {x y : Str} {k0 : Nat} (P : Nat → List C → Prop) (hcl : X.calm = true) (hN : X.N.Nodup) (hp : PassesOwn (model X.prog X.w) X.A X.env X.xe) (hit : EX X cs it (.lst ds)) (ht : ∀ d ∈ ds, ∃ d1 d2, d = .tup [d1, d2]) (h0 : P 0 cs)
    (hs : ∀ j d1 d2 cs', ds[j]? = some (.tup [d1, d2]) → P j cs' → SXs X ((cs'.set i (.sh d1)).set k (.sh d2)) body { F with nx := P (j + 1), ct := P (j + 1), bk := fun cs' => SXs X cs' sts F }) (hd : ∀ cs', P ds.length cs' → SXs X cs' sts F)
    (hi : X.N[i]? = some x := by rfl) (hk : X.N[k]? = some y := by rfl) (hx : Loc X.env.scope x := by first | exact Or.inl rfl | exact Or.inr rfl) (hy : Loc X.env.scope y := by first | exact Or.inl rfl | exact Or.inr rfl)
    (hf : X.fn x = true ∨ X.env.scope.names.lookup x = some .local := by first | exact .inl rfl | exact .inr rfl) (hf2 : X.fn y = true ∨ X.env.scope.names.lookup y = some .local := by first | exact .inl rfl | exact .inr rfl) (hfo : ∀ x, foldedSetIterable it X.env x = pure x := by intro _; rfl)
    (hg : ∀ (t : TGs), PGs X [.Name x px, .Name y py] t → PG X (.Tuple [.Name x px, .Name y py] k0 pt) (gTup X.K 2 t) := by intro t h; exact pg_tup rfl h)
    (hg2 : PGs X [.Name x px, .Name y py] (gCons (gName i) (gCons (gName k) gNil)) := by exact pgs_cons (pg_name (by assumption) rfl (by first | exact Or.inl rfl | exact Or.inr rfl)) (pgs_cons (pg_name (by assumption) rfl (by first | exact Or.inl rfl | exact Or.inr rfl)) pgs_nil)) :
    SXs X cs (.For (.Tuple [.Name x px, .Name y py] k0 pt) it body [] pos :: sts) F :=
  sxq_no (sxq_forLU i k P hcl hN hp hit ht h0 (fun j d1 d2 cs' a b => fun He Hb H0 H σ E s q _ => hs j d1 d2 cs' a b _ _ _ _ _ _ s ⟨q.nx, q.rt, fun cs2 H2 H3 σ3 e2 s2 h2 => q.bk cs2 H2 H3 σ3 e2 s2 (sxq_of h2), q.ct, q.ex⟩) (fun cs' a => sxq_of (hd cs' a)) hi hk hx hy hf hf2 hfo hg hg2)
end
/-! a new tuple of a word and a new list -/
def RTt (K : PySem.W.Frag) (post : Bool → List D → Prop) : RT := fun Hb v H0' H' => ∃ b ds t l ws, v = .ref t ∧ post b ds ∧ Hb l = none ∧ H0' l = none ∧ Hb t = none ∧ H0' t = none ∧ t ≠ l ∧ H' t = some (.tup [.bl b, .ref l]) ∧ H' l = some (.lst ws) ∧ RepA K H0' ws ds
def spT (K : PySem.W.Frag) (R : List D → (Out → Prop) → Prop) : Sp := fun vs H Q E => ∃ (H0 : Hp) (ds : List D) (post : Out → Prop), Same H0 H ∧ RepA K H0 vs ds ∧ R ds post ∧
  (∀ b ds' t l ws H' H0', post (.ret (.tup [.bl b, .lst ds'])) → Grow H0 H H0' H' → H l = none → H0' l = none → H t = none → H0' t = none → t ≠ l → H' t = some (.tup [.bl b, .ref l]) → H' l = some (.lst ws) → RepA K H0' ws ds' → Q (.ref t) H') ∧ ∀ Cl H', post (.exc Cl) → Same H H' → E (.ref Cl) none H'
structure FnT (P : Program) (w : World) (K : PySem.W.Frag) (mg : Str → Option Value) (base : Heap) (CX : CXT) (k : Nat) (x : Str) (R : List D → (Out → Prop) → Prop) : Prop where
  ex : ∃ f fd ps, FnOk P w K mg base CX k f fd ps (spT K R) ∧ mg x = some (.ref f) ∧ PySem.W.keepIn K (.ref f) = true ∧ Binds K fd ps []
theorem spT_spD {K : PySem.W.Frag} {R : List D → (Out → Prop) → Prop} {vs : List V} {H : Hp} {Q : VK} {E : XK} (h : spD K R vs H Q E) : spT K R vs H Q E := by
  obtain ⟨H0, ds, post, i, r, h, k1, k2⟩ := h
  refine ⟨H0, ds, post, i, r, h, fun b ds' t l ws H' H0' z g hl h0 ht h0t hne et el rw => ?_, k2⟩
  have g1 := g.freeze hl h0 el
  have g2 := g1.freeze ht (by rw [upd_ne hne]; exact h0t) et
  refine k1 _ _ H' _ z g2 (.tup upd_same (.cons (.bl b) (.cons (.lst (xs := ws) ?_ ?_) .nil)))
  · rw [upd_ne hne.symm]; exact upd_same
  · exact (rw.mono (same_upd h0)).mono (same_upd (by rw [upd_ne hne]; exact h0t))
theorem FnT.d {P : Program} {w : World} {K : PySem.W.Frag} {mg : Str → Option Value} {base : Heap} {CX : CXT} {k : Nat} {x : Str} {R : List D → (Out → Prop) → Prop} (M : FnT P w K mg base CX k x R) : FnC P w K mg base CX k x R := by
  obtain ⟨f, fd, ps, ok, a, b, c⟩ := M.ex
  exact ⟨f, fd, ps, ok.imp fun _ _ _ _ h => spT_spD h, a, b, c⟩
theorem sxq_retT {X : Cx} {cs : List C} {e1 e2 : Expr} {x1 : Nat} {pos pos' : Pos} {F : DE} {b : Bool} {ds : List D} {post : Bool → List D → Prop} (h1 : EX X cs e1 (.bl b)) (h2 : EO X cs e2 ds) (k : post b ds) (hs1 : Pl e1 := by intro _ _; rfl) (hs2 : Pl e2 := by intro _ _; rfl) :
    SXq X cs [.Return (some (.Tuple [e1, e2] x1 pos)) pos'] F (RTt X.K post) := fun He Hb H0 H σ E s q r =>
  wSs_of (pss_one (ps_ret (pe_tup (pa_cons pe_w (pa_cons pe_w pa_nil (hs2 _ _)) (hs1 _ _))))) (h1 _ _ _ _ _ _ s fun x H1 H01 g1 r1 => by
    cases r1
    refine h2 _ _ _ _ _ _ (s.grow g1) fun l vs H2 H02 g2 hl h0 hv rw => ⟨by show 2 ≤ _; decide, fun p hp => ?_⟩
    have g := g1.trans g2
    have g3 := g.trans (Grow.own (o := .tup [.bl b, .ref l]) g.i hp)
    have hne : p ≠ l := fun e => by rw [e, hv] at hp; cases hp
    have hbl : Hb l = none := s.gr.h.free (g1.h.free hl)
    have hbp : Hb p = none := s.gr.h.free (g.h.free hp)
    exact r _ _ _ (s.gr.trans g3) ⟨b, ds, p, l, vs, rfl, k, hbl, h0, hbp, g.i.free hp, hne, upd_same, by rw [upd_ne hne.symm]; exact hv, rw⟩)
section
variable {P : Program} {w : World} {K : PySem.W.Frag} {mg : Str → Option Value} {base : Heap}
theorem fn_okT {x qual : Str} {st : Stmt} {f : Addr} {fd : FuncData} {N ps : List Str} {k : Nat} {R : List D → (Out → Prop) → Prop} (F : Fun K x qual st f fd) (S : FnScope N ps (defScope st)) (hl : ∀ ds post, R ds post → ds.length = ps.length) (hps : ps.length ≤ N.length)
    (hb : ∀ (X : Cx) ds post, (∃ cdv A outer s H E, X = (cxOf CX0 P w K mg base N qual (defScope st) f cdv A outer s H E).nox) → Room k X.A → R ds post → SXq X (ent N.length ds) (defBody st) { nx := fun _ => False, rt := fun _ => False } (RTt K fun b ds' => post (.ret (.tup [.bl b, .lst ds'])))) : FnOk P w K mg base CX0 (k + 1) f fd ps (spT K R) := by
  refine F.ok S (fun vs H Q E h => ?_) (fun cdv A outer s H vs Q E hr h => ?_)
  · obtain ⟨H0, ds, post, _, r, h, _⟩ := h
    rw [r.len]
    exact hl ds post h
  · obtain ⟨H0, ds, post, i, r, h, k1, k2⟩ := h
    refine ⟨_, pss_w, hb _ ds post ⟨_, _, _, _, _, _, rfl⟩ hr h _ _ _ _ _ _ (sr_start i r (by rw [hl ds post h]; exact hps)) ⟨fun _ _ _ _ _ _ z => z.elim, fun _ _ _ _ _ _ z => z.elim, fun _ _ _ _ _ _ z => z.elim, fun _ _ _ _ _ _ z => z.elim, takes_no⟩ fun v H0' H' g z => ?_⟩
    obtain ⟨b, ds', t, l, ws, rfl, z1, z2, z3, z4, z5, z6, z7, z8, z9⟩ := z
    exact k1 b ds' t l ws H' H0' z1 g z2 z3 z4 z5 z6 z7 z8 z9
end
end DL

end
section
set_option maxHeartbeats 2000000
namespace DL
section
variable {n : Nat} {ts : List (Int × Int)}
abbrev Rc (n : Nat) (ts : List (Int × Int)) : Int × Int → Int × Int → Prop := Reach (stp n ts)
theorem away_in (ht : Tied n ts) {a b x : Int} (h1 : adj ts a x = true) (h2 : x ≠ b) (h3 : adj ts b x = false) : (a, x) ∈ stp n ts (a, b) :=
  once_mem.mpr (.inl (away_mem.mpr ⟨rfl, isPt_iff.mp (adj_pt ht h1).2, h1, h2, h3⟩))
theorem toward_in (ht : Tied n ts) {a b x : Int} (h1 : adj ts b x = true) (h2 : x ≠ a) (h3 : adj ts a x = false) : (x, b) ∈ stp n ts (a, b) :=
  once_mem.mpr (.inr (toward_mem.mpr ⟨rfl, isPt_iff.mp (adj_pt ht h1).2, h1, h2, h3⟩))
theorem rc_turn {a b : Int × Int} (h : Rc n ts a b) : Rc n ts (sw a) (sw b) := h.elim fun k w => ⟨k, walk_turn w⟩
/-- the triangle lemma -/
theorem triangle (ht : Tied n ts) {a b c : Int} (hab : adj ts a b = true) (hac : adj ts a c = true) (hbc : adj ts b c = true) (n1 : ¬ Rc n ts (b, c) (a, c)) (n2 : ¬ Rc n ts (b, c) (b, a)) {q : Int × Int} (h : Rc n ts (b, c) q) :
    (adj ts a q.1 = true ∧ adj ts a q.2 = true) ∧ Rc n ts (a, b) (a, q.1) ∧ Rc n ts (a, c) (a, q.2) := by
  obtain ⟨k, w⟩ := h
  induction w with
  | zero => exact ⟨⟨hab, hac⟩, .refl _ _, .refl _ _⟩
  | @succ k q1 q2 w hq ih =>
    obtain ⟨⟨e1, e2⟩, r1, r2⟩ := ih
    obtain ⟨b1, c1⟩ := q1
    obtain ⟨b2, c2⟩ := q2
    simp only at e1 e2 r1 r2 ⊢
    have hr : Rc n ts (b, c) (b1, c1) := ⟨k, w⟩
    have hac' := hac
    have m1 : ¬ Rc n ts (b1, c1) (a, c1) := fun z => n1 (reach_trans (reach_trans hr z) (reach_sym ht (a := (a, c)) hac r2))
    have m2 : ¬ Rc n ts (b1, c1) (b1, a) := fun z => n2 (reach_trans (reach_trans hr z) (reach_sym ht (a := (b, a)) (by rw [adj_sym]; exact hab) (rc_turn r1)))
    rcases once_mem.mp hq with hq' | hq'
    · obtain ⟨e, h1, h2, h3, h4⟩ := away_mem.mp hq'
      simp only at e h1 h2 h3 h4
      subst e
      have hax : adj ts a c2 = true := by
        cases z : adj ts a c2 with
        | true => rfl
        | false =>
          have hne : a ≠ c2 := fun e => by rw [← e, adj_sym, e2] at h4; cases h4
          exact absurd ((Reach.refl (stp n ts) (b2, c1)).step _ hq |>.step _ (away_in ht (by rw [adj_sym]; exact e1) hne (by rw [adj_sym]; exact z))) m2
      exact ⟨⟨e1, hax⟩, r1, r2.step _ (away_in ht hax h3 h4)⟩
    · obtain ⟨e, h1, h2, h3, h4⟩ := toward_mem.mp hq'
      simp only at e h1 h2 h3 h4
      subst e
      have hax : adj ts a b2 = true := by
        cases z : adj ts a b2 with
        | true => rfl
        | false =>
          have hne : a ≠ b2 := fun e => by rw [← e, adj_sym, e1] at h4; cases h4
          exact absurd ((Reach.refl (stp n ts) (b1, c2)).step _ hq |>.step _ (toward_in ht (by rw [adj_sym]; exact e2) hne (by rw [adj_sym]; exact z))) m1
      exact ⟨⟨hax, e2⟩, r1.step _ (away_in ht hax h3 h4), r2⟩
def nrm (q : Int × Int) : Int × Int := if q.1 < q.2 then q else sw q
def leL (a b : Int × Int) : Prop := a.1 < b.1 ∨ (a.1 = b.1 ∧ a.2 ≤ b.2)
theorem leL_tot (a b : Int × Int) : leL a b ∨ leL b a := by unfold leL; omega
theorem leL_tr {a b c : Int × Int} (h : leL a b) (k : leL b c) : leL a c := by unfold leL at *; omega
/-- a choice of directions, class by class, each by its least tie -/
structure Lexy (n : Nat) (ts : List (Int × Int)) (T : List (Int × Int)) : Prop where
  ad : ∀ p ∈ T, adj ts p.1 p.2 = true
  one : ∀ p ∈ T, sw p ∉ T
  cov : ∀ p : Int × Int, adj ts p.1 p.2 = true → p ∈ T ∨ sw p ∈ T
  cl : ∀ p ∈ T, ∀ q, Rc n ts p q → q ∈ T
  root : ∀ p ∈ T, ∃ r ∈ T, r.1 < r.2 ∧ Rc n ts r p ∧ ∀ q, Rc n ts r q → leL r (nrm q)
theorem lexy_core (ht : Tied n ts) {T : List (Int × Int)} (L : Lexy n ts T) {a b c : Int} (h1 : (a, b) ∈ T) (h2 : (b, c) ∈ T) (h3 : (c, a) ∈ T) {r1 r : Int × Int} (hr1 : r1 ∈ T ∧ Rc n ts r1 (a, b) ∧ ∀ q, Rc n ts r1 q → leL r1 (nrm q)) (hr : r ∈ T ∧ r.1 < r.2 ∧ Rc n ts r (b, c)) (hle : leL r r1) : False := by
  have ab := L.ad _ h1
  have bc := L.ad _ h2
  have ca := L.ad _ h3
  simp only at ab bc ca
  have ac : adj ts a c = true := by rw [adj_sym]; exact ca
  have no : ∀ {x y : Int}, (x, y) ∈ T → ∀ {p : Int × Int}, p ∈ T → ¬ Rc n ts p (y, x) := fun {x y} hxy {p} hp z => L.one _ hxy (L.cl _ hp _ z)
  obtain ⟨hrT, hlt, hrr⟩ := hr
  obtain ⟨b', c'⟩ := r
  simp only at hlt
  have hbr := reach_sym ht (a := (b', c')) (L.ad _ hrT) hrr
  obtain ⟨⟨e1, e2⟩, t1, t2⟩ := triangle ht ab ac bc (no h3 h2) (no h1 h2) hbr
  simp only at e1 e2 t1 t2
  have p1 : (a, b') ∈ T := L.cl _ h1 _ t1
  have p3 : (c', a) ∈ T := L.cl _ h3 _ (rc_turn t2)
  obtain ⟨hr1T, hr1r, hr1m⟩ := hr1
  have hm := hr1m (a, b') (reach_trans hr1r t1)
  have hne : a ≠ b' := adj_ne ht e1
  obtain ⟨p, d⟩ := r1
  have hp : p = b' := by
    unfold nrm leL at hm
    unfold leL at hle
    simp only at hle
    by_cases hlt2 : a < b'
    · rw [if_pos hlt2] at hm
      simp only at hm
      omega
    · rw [if_neg hlt2] at hm
      simp only [sw] at hm
      omega
  subst hp
  have hpd : Rc n ts (a, p) (p, d) := reach_sym ht (a := (p, d)) (L.ad _ hr1T) (reach_trans hr1r t1)
  obtain ⟨_, u1, _⟩ := triangle ht (a := c') (b := a) (c := p) (by rw [adj_sym]; exact e2) (by rw [adj_sym]; exact L.ad _ hrT) e1 (no hrT p1) (no p3 p1) hpd
  exact no hrT p3 u1
theorem lexy_trans (ht : Tied n ts) {T : List (Int × Int)} (L : Lexy n ts T) {a b c : Int} (h1 : (a, b) ∈ T) (h2 : (b, c) ∈ T) : (a, c) ∈ T := by
  have ab := L.ad _ h1
  have bc := L.ad _ h2
  simp only at ab bc
  have hac : a ≠ c := fun e => L.one _ h1 (by subst e; exact h2)
  cases z : adj ts a c with
  | false =>
    have : (c, b) ∈ T := L.cl _ h1 _ ((Reach.refl (stp n ts) (a, b)).step _ (toward_in ht bc hac.symm z))
    exact absurd this (L.one _ h2)
  | true =>
    rcases L.cov (a, c) z with h | h
    · exact h
    · exfalso
      have h3 : (c, a) ∈ T := h
      obtain ⟨r1, a1, a2, a3, a4⟩ := L.root _ h1
      obtain ⟨r2, b1, b2, b3, b4⟩ := L.root _ h2
      obtain ⟨r3, c1, c2, c3, c4⟩ := L.root _ h3
      by_cases q1 : leL r2 r1
      · exact lexy_core ht L h1 h2 h3 ⟨a1, a3, a4⟩ ⟨b1, b2, b3⟩ q1
      · by_cases q2 : leL r3 r2
        · exact lexy_core ht L h2 h3 h1 ⟨b1, b3, b4⟩ ⟨c1, c2, c3⟩ q2
        · by_cases q3 : leL r1 r3
          · exact lexy_core ht L h3 h1 h2 ⟨c1, c3, c4⟩ ⟨a1, a2, a3⟩ q3
          · have s1 := (leL_tot r1 r2).resolve_right q1
            have s2 := (leL_tot r2 r3).resolve_right q2
            exact q3 (leL_tr s1 s2)
end
end DL

end
section
set_option maxHeartbeats 2000000
namespace DL
theorem dk_keys {keys : List (Int × Int)} {g : Int × Int → Bool} : (dk keys g).map (·.1) = keys := by
  unfold dk
  rw [List.map_map]
  exact List.map_id _
theorem sw_sw (p : Int × Int) : sw (sw p) = p := rfl
theorem addL_mem {x : Int × Int} : ∀ {l tk : List (Int × Int)}, x ∈ l.foldl addK tk ↔ x ∈ tk ∨ x ∈ l
  | [], tk => by simp
  | y :: l, tk => by
    rw [List.foldl_cons, addL_mem (l := l), addK_mem, List.mem_cons]
    constructor
    · rintro ((h | h) | h)
      · exact .inl h
      · exact .inr (.inl h)
      · exact .inr (.inr h)
    · rintro (h | h | h)
      · exact .inl (.inl h)
      · exact .inl (.inr h)
      · exact .inr h
theorem addL_nd : ∀ {l tk : List (Int × Int)}, tk.Nodup → (l.foldl addK tk).Nodup
  | [], _, h => h
  | y :: l, tk, h => by
    rw [List.foldl_cons]
    exact addL_nd (l := l) (addK_nd h)
open Classical in
@[irreducible] noncomputable def chainL (n : Nat) (ts : List (Int × Int)) (a b : Int × Int) : List (Int × Int) := if h : ∃ r, LeastC n ts a b r then choose h else []
theorem chainL_least {n : Nat} {ts : List (Int × Int)} (hn : n ≤ 24) (ht : Tied n ts) {a b : Int × Int} (h : adj ts a.1 a.2 = true) (r : Rc n ts a b) : LeastC n ts a b (chainL n ts a b) ∧ (chainL n ts a b).length ≤ 601 := by
  obtain ⟨s, hs, hl⟩ := chain_has hn ht h r
  have e : ∃ r, LeastC n ts a b r := ⟨s, hs⟩
  have z : LeastC n ts a b (chainL n ts a b) := by
    unfold chainL
    rw [dif_pos e]
    exact Classical.choose_spec e
  exact ⟨z, by rw [chain_uniq z hs]; exact hl⟩
noncomputable def turnGo (n : Nat) (ts : List (Int × Int)) : List (Int × Int) → List (Int × Int) → Bool × List (Int × Int)
  | [], tk => (true, sortP tk)
  | p :: ps, tk => if p ∈ tk ∨ sw p ∈ tk then turnGo n ts ps tk else if sw p ∈ ledL n ts p then (false, chainL n ts p (sw p)) else turnGo n ts ps ((ledL n ts p).foldl addK tk)
@[irreducible] noncomputable def turnedK (n : Nat) (ts : List (Int × Int)) : Bool × List (Int × Int) := turnGo n ts (pairsL n ts) []
section
variable {n : Nat} {ts : List (Int × Int)}
structure TkI (n : Nat) (ts done tk : List (Int × Int)) : Prop where
  nd : tk.Nodup
  ad : ∀ p ∈ tk, adj ts p.1 p.2 = true
  one : ∀ p ∈ tk, sw p ∉ tk
  cl : ∀ p ∈ tk, ∀ q, Rc n ts p q → q ∈ tk
  cov : ∀ p ∈ done, p ∈ tk ∨ sw p ∈ tk
  root : ∀ p ∈ tk, ∃ r ∈ tk, r.1 < r.2 ∧ Rc n ts r p ∧ ∀ q, Rc n ts r q → leL r (nrm q)
theorem ti_nil : TkI n ts [] [] := ⟨.nil, nofun, nofun, nofun, nofun, nofun⟩
theorem ti_skip {done tk : List (Int × Int)} {p : Int × Int} (h : TkI n ts done tk) (hp : p ∈ tk ∨ sw p ∈ tk) : TkI n ts (done ++ [p]) tk :=
  ⟨h.nd, h.ad, h.one, h.cl, fun q hq => by
    rcases List.mem_append.mp hq with hq | hq
    · exact h.cov q hq
    · rw [List.mem_singleton.mp hq]; exact hp, h.root⟩
theorem pairs_arrow (ht : Tied n ts) {p : Int × Int} : p ∈ pairsL n ts ↔ p.1 < p.2 ∧ adj ts p.1 p.2 = true := by
  rw [pairs_mem ht, adj_iff]
theorem nrm_pair (ht : Tied n ts) {q : Int × Int} (h : adj ts q.1 q.2 = true) : nrm q ∈ pairsL n ts ∧ (nrm q = q ∨ nrm q = sw q) := by
  have hne := adj_ne ht h
  unfold nrm
  split
  · rename_i z
    exact ⟨(pairs_arrow ht).mpr ⟨z, h⟩, .inl rfl⟩
  · rename_i z
    refine ⟨(pairs_arrow ht).mpr ⟨?_, ?_⟩, .inr rfl⟩
    · show q.2 < q.1
      omega
    · show adj ts q.2 q.1 = true
      rw [adj_sym]; exact h
theorem ti_step (ht : Tied n ts) {done rest tk : List (Int × Int)} {p : Int × Int} (e : pairsL n ts = done ++ p :: rest) (h : TkI n ts done tk) (h1 : p ∉ tk) (h2 : sw p ∉ tk) (h3 : sw p ∉ ledL n ts p) : TkI n ts (done ++ [p]) ((ledL n ts p).foldl addK tk) := by
  have hpm : p ∈ pairsL n ts := by rw [e]; simp
  obtain ⟨hlt, hpa⟩ := (pairs_arrow ht).mp hpm
  have lm : ∀ {x}, x ∈ ledL n ts p ↔ Rc n ts p x := led_mem ht hpa
  have mm : ∀ {x}, x ∈ (ledL n ts p).foldl addK tk ↔ x ∈ tk ∨ Rc n ts p x := fun {x} => by rw [addL_mem, lm]
  have h3 : ¬ Rc n ts p (sw p) := fun z => h3 (lm.mpr z)
  have spa : adj ts (sw p).1 (sw p).2 = true := by show adj ts p.2 p.1 = true; rw [adj_sym]; exact hpa
  have pin : Rc n ts p p := .refl _ _
  refine ⟨addL_nd h.nd, fun x hx => ?_, fun x hx hs => ?_, fun x hx q hq => ?_, fun x hx => ?_, fun x hx => ?_⟩
  · rcases mm.mp hx with hx | hx
    · exact h.ad x hx
    · exact reach_adj hpa hx
  · have t1 : ∀ {y}, Rc n ts p y → Rc n ts (sw y) (sw p) := fun {y} r => reach_sym ht spa (rc_turn r)
    rcases mm.mp hx with hx | hx
    · rcases mm.mp hs with hs | hs
      · exact h.one x hx hs
      · exact h2 (h.cl x hx _ (t1 hs))
    · rcases mm.mp hs with hs | hs
      · exact h2 (h.cl _ hs _ (t1 hx))
      · exact h3 (reach_trans hx (t1 hs))
  · rcases mm.mp hx with hx | hx
    · exact mm.mpr (.inl (h.cl x hx q hq))
    · exact mm.mpr (.inr (reach_trans hx hq))
  · rcases List.mem_append.mp hx with hx | hx
    · rcases h.cov x hx with z | z
      · exact .inl (mm.mpr (.inl z))
      · exact .inr (mm.mpr (.inl z))
    · rw [List.mem_singleton.mp hx]
      exact .inl (mm.mpr (.inr pin))
  · rcases mm.mp hx with hx | hx
    · obtain ⟨r, a, b, c, d⟩ := h.root x hx
      exact ⟨r, mm.mpr (.inl a), b, c, d⟩
    · refine ⟨p, mm.mpr (.inr pin), hlt, hx, fun q hq => ?_⟩
      have hqa := reach_adj hpa hq
      obtain ⟨n1, n2⟩ := nrm_pair ht hqa
      have hup := pairs_up n ts
      rw [e] at n1 hup
      rcases List.mem_append.mp n1 with z | z
      · exfalso
        have hc := h.cov _ z
        have q1 : q ∈ tk ∨ sw q ∈ tk := by
          rcases n2 with e2 | e2
          · rw [e2] at hc; exact hc
          · rw [e2, sw_sw] at hc; exact hc.symm
        rcases q1 with w | w
        · exact h1 (h.cl q w p (reach_sym ht hpa hq))
        · exact h2 (h.cl _ w _ (rc_turn (reach_sym ht hpa hq)))
      · rcases List.mem_cons.mp z with z | z
        · rw [z]; unfold leL; omega
        · rw [List.pairwise_append, List.pairwise_cons] at hup
          have := (hup.2.1.1 _ z).1
          rw [leP_iff] at this
          exact this
theorem ti_lexy (ht : Tied n ts) {T : List (Int × Int)} (h : TkI n ts (pairsL n ts) T) : Lexy n ts T :=
  ⟨h.ad, h.one, fun p hp => by
    obtain ⟨n1, n2⟩ := nrm_pair ht hp
    have := h.cov _ n1
    rcases n2 with e | e
    · rwa [e] at this
    · rw [e, sw_sw] at this; exact this.symm, h.cl, h.root⟩
/-- the directions that are told -/
structure TurnsOk (n : Nat) (ts as : List (Int × Int)) : Prop where
  nd : as.Nodup
  ad : ∀ p ∈ as, adj ts p.1 p.2 = true
  one : ∀ p ∈ as, sw p ∉ as
  cov : ∀ p : Int × Int, adj ts p.1 p.2 = true → p ∈ as ∨ sw p ∈ as
  tr : ∀ a b c : Int, (a, b) ∈ as → (b, c) ∈ as → (a, c) ∈ as
theorem TurnsOk.perm {as bs : List (Int × Int)} (h : TurnsOk n ts as) (p : bs.Perm as) : TurnsOk n ts bs :=
  ⟨p.nodup_iff.mpr h.nd, fun x hx => h.ad x (p.mem_iff.mp hx), fun x hx z => h.one x (p.mem_iff.mp hx) (p.mem_iff.mp z), fun x hx => (h.cov x hx).imp p.mem_iff.mpr p.mem_iff.mpr, fun a b c x y => p.mem_iff.mpr (h.tr a b c (p.mem_iff.mp x) (p.mem_iff.mp y))⟩
theorem TurnsOk.len {as : List (Int × Int)} (h : TurnsOk n ts as) : (bothK ts).length = 2 * as.length := by
  have hs : (as.map sw).Nodup := List.pairwise_map.mpr (h.nd.imp fun hne e => hne (congrArg sw e))
  have hnd : (as ++ as.map sw).Nodup := nodup_app h.nd hs fun x hx => by
    obtain ⟨y, hy, rfl⟩ := List.mem_map.mp hx
    exact h.one y hy
  have hp : (bothK ts).Perm (as ++ as.map sw) := (List.perm_ext_iff_of_nodup (bothK_nd ts) hnd).mpr fun x => by
    rw [bothK_mem, List.mem_append]
    have hx : (x ∈ ts ∨ sw x ∈ ts) ↔ adj ts x.1 x.2 = true := adj_iff.symm
    rw [hx]
    constructor
    · intro z
      rcases h.cov x z with w | w
      · exact .inl w
      · exact .inr (List.mem_map.mpr ⟨_, w, rfl⟩)
    · rintro (z | z)
      · exact h.ad x z
      · obtain ⟨y, hy, rfl⟩ := List.mem_map.mp z
        show adj ts y.2 y.1 = true
        rw [adj_sym]
        exact h.ad y hy
  rw [hp.length_eq, List.length_append, List.length_map]
  omega
def ClashOk (n : Nat) (ts r : List (Int × Int)) : Prop := ∃ p : Int × Int, adj ts p.1 p.2 = true ∧ LeastC n ts p (sw p) r
theorem turnGo_ok (hn : n ≤ 24) (ht : Tied n ts) : ∀ {rest done tk : List (Int × Int)}, pairsL n ts = done ++ rest → TkI n ts done tk → ((turnGo n ts rest tk).1 = true ∧ TurnsOk n ts (turnGo n ts rest tk).2) ∨ ((turnGo n ts rest tk).1 = false ∧ ClashOk n ts (turnGo n ts rest tk).2)
  | [], done, tk, e, h => by
    rw [List.append_nil] at e
    rw [← e] at h
    have L := ti_lexy ht h
    exact .inl ⟨rfl, (⟨h.nd, L.ad, L.one, L.cov, fun a b c x y => lexy_trans ht L x y⟩ : TurnsOk n ts tk).perm (sortP_perm _)⟩
  | p :: rest, done, tk, e, h => by
    unfold turnGo
    have e2 : pairsL n ts = (done ++ [p]) ++ rest := by rw [e]; simp
    have hpa : adj ts p.1 p.2 = true := ((pairs_arrow ht).mp (by rw [e]; simp)).2
    by_cases h1 : p ∈ tk ∨ sw p ∈ tk
    · rw [if_pos h1]
      exact turnGo_ok hn ht e2 (ti_skip h h1)
    · rw [if_neg h1]
      by_cases h2 : sw p ∈ ledL n ts p
      · rw [if_pos h2]
        exact .inr ⟨rfl, p, hpa, (chainL_least hn ht hpa ((led_mem ht hpa).mp h2)).1⟩
      · rw [if_neg h2]
        exact turnGo_ok hn ht e2 (ti_step ht e h (fun z => h1 (.inl z)) (fun z => h1 (.inr z)) h2)
theorem turned_ok (hn : n ≤ 24) (ht : Tied n ts) : ((turnedK n ts).1 = true ∧ TurnsOk n ts (turnedK n ts).2) ∨ ((turnedK n ts).1 = false ∧ ClashOk n ts (turnedK n ts).2) := by
  unfold turnedK
  exact turnGo_ok hn ht rfl ti_nil
theorem turns_len {as : List (Int × Int)} (hn : n ≤ 24) (ht : Tied n ts) (h : TurnsOk n ts as) : as.length ≤ 576 := by
  have h1 := nodup_le h.nd (u := allP n) fun x hx => by
    obtain ⟨a, b⟩ := adj_pt ht (h.ad x hx)
    exact allP_mem.mpr ⟨isPt_iff.mp a, isPt_iff.mp b⟩
  have h2 := allP_len n
  have h3 : n * n ≤ 576 := Nat.mul_le_mul hn hn
  omega
theorem clash_len {r : List (Int × Int)} (hn : n ≤ 24) (ht : Tied n ts) (h : ClashOk n ts r) : r.length ≤ 601 := by
  obtain ⟨p, hp, hl⟩ := h
  obtain ⟨s, hs, hle⟩ := chain_has hn ht hp (least_reach hl)
  rw [chain_uniq hl hs]
  exact hle
theorem turned_len (hn : n ≤ 24) (ht : Tied n ts) : (turnedK n ts).2.length ≤ 601 := by
  rcases turned_ok hn ht with ⟨_, h⟩ | ⟨_, h⟩
  · have := turns_len hn ht h
    omega
  · exact clash_len hn ht h
end
theorem Path.next {α : Type} {f : α → List α} {a c : α} {r : List α} (p : Path f a c r) : ∀ k (h : k + 1 < r.length), r[k + 1]'h ∈ f (r[k]'(by omega)) := by
  induction p with
  | one => intro k h; simp at h
  | @snoc b c r p hc ih =>
    intro k h
    have h0 : k + 1 < r.length + 1 := by simpa using h
    have hk : k < r.length := by omega
    have ek : (r ++ [c])[k]'(by simp; omega) = r[k] := List.getElem_append_left hk
    rcases Nat.lt_or_ge (k + 1) r.length with z | z
    · have e1 : (r ++ [c])[k + 1]'h = r[k + 1] := List.getElem_append_left z
      rw [e1, ek]
      exact ih k z
    · have e : k + 1 = r.length := by omega
      have e1 : (r ++ [c])[k + 1]'h = c := by
        rw [List.getElem_append_right z]
        simp
      have hb : r[k] = b := by
        cases p with
        | one => simp at e; subst e; rfl
        | @snoc b' _ r' _ _ =>
          have e' : k = r'.length := by simpa using e
          subst e'
          simp
      rw [e1, ek, hb]
      exact hc
theorem Path.last {α : Type} {f : α → List α} {a c : α} {r : List α} (p : Path f a c r) : ∃ q, r = q ++ [c] := by
  cases p with
  | one => exact ⟨[], rfl⟩
  | snoc _ _ => exact ⟨_, rfl⟩
end DL

end
section
set_option maxHeartbeats 4000000
namespace Lw
open PySem PySem.Spec L2 DL
abbrev bothD (ts : List (Int × Int)) : D := .dic (dk (bothK ts) fun _ => true)
/-- what the law asks of a list of directions -/
def TurnsL (ts as : List (Int × Int)) : Prop := (∀ j a, as[j]? = some a → adj ts a.1 a.2 = true ∧ a ∉ as.take j ∧ sw a ∉ as.take j) ∧ 2 * as.length = (bothK ts).length ∧ ∀ p ∈ as, ∀ q ∈ as, q.1 = p.2 → (p.1, q.2) ∈ as
theorem turns_l {n : Nat} {ts as : List (Int × Int)} (h : TurnsOk n ts as) : TurnsL ts as := by
  refine ⟨fun j a ha => ⟨h.ad a (List.mem_of_getElem? ha), fun z => ?_, fun z => h.one _ (List.mem_of_getElem? ha) (List.mem_of_mem_take z)⟩, h.len.symm, fun p hp q hq e => h.tr p.1 p.2 q.2 hp (by rw [← e]; exact hq)⟩
  have hnd := h.nd
  obtain ⟨hj, e⟩ := List.getElem?_eq_some_iff.mp ha
  rw [← List.take_append_drop j as, List.nodup_append] at hnd
  exact hnd.2.2 a z a (by rw [List.drop_eq_getElem_cons hj, e]; simp) rfl
open Classical in
noncomputable def turnsB (ts as : List (Int × Int)) : Bool := decide (TurnsL ts as)
theorem turnsB_t {ts as : List (Int × Int)} (h : TurnsL ts as) : turnsB ts as = true := by
  unfold turnsB
  simp [h]
theorem turnsB_f {ts as : List (Int × Int)} (h : ¬ TurnsL ts as) : turnsB ts as = false := by
  unfold turnsB
  simp [h]
theorem turnsB_ok {n : Nat} {ts as : List (Int × Int)} (h : TurnsOk n ts as) : turnsB ts as = true := turnsB_t (turns_l h)
abbrev rPair : List D → (Out → Prop) → Prop := fun ds post => ∃ p : Int × Int, ds = [dP p] ∧ post (.ret (.bl true))
abbrev rTurns : List D → (Out → Prop) → Prop := fun ds post => ∃ ts as : List (Int × Int), ds = [bothD ts, .lst (as.map dP)] ∧ as.length ≤ 100000 ∧ post (.ret (.bl (turnsB ts as)))
abbrev rToldPair : List D → (Out → Prop) → Prop := fun ds post => ∃ (b : Bool) (d : D), ds = [.tup [.bl b, d]] ∧ post (.ret (.bl true))
section
variable {P : Program} {w : World} {K : PySem.W.Frag} {mg : Str → Option Value} {base : Heap}
abbrev s_law_pair : Stmt := top 53
theorem sc_law_pair : FnScope ["_law_told_here"] ["_law_told_here"] (defScope s_law_pair) := ⟨rfl, rfl, rfl, by decide +kernel, rfl, by decide +kernel, by decide +kernel⟩
theorem ok_pair {f : Addr} {fd : FuncData} (F : Fun K "_law_pair" "_law_pair" s_law_pair f fd) (T : Glb mg) (gWhole : FnC P w K mg base CX0 1 "_law_whole" rWhole) : FnOk P w K mg base CX0 2 f fd ["_law_told_here"] (spD K rPair) := by
  have nd := sc_law_pair.nd
  refine fn_okD F sc_law_pair (by rintro _ _ ⟨_, rfl, _⟩; rfl) (by decide) ?_
  rintro X _ post ⟨cdv, A, outer, s, H, E, rfl⟩ hr ⟨p, rfl, hp⟩
  refine sxs_one (sx_ret (EX.to (d' := .bl true) (ex_and (EX.bo (ex_isi (T := "tuple") T.isinst T.tuple (eb_v 0) (by decide +kernel) (by first | exact ki_tt | exact ki_lt | exact ki_it | exact ki_bt | exact ki_nt))) (fun hB => (ex_and (EX.bo (ex_eqI (EX.bo (ex_lenT T.len (eb_v 0))) (EX.bo ex_int))) (fun hB => (ex_and (EX.bo (ex_call gWhole (hr.mono (by decide)) pass0 (ea_cons (ex_ixT (ex_v 0) (EX.bo ex_int) rfl) ea_nil) ⟨_, rfl, rfl⟩)) (fun hB => (ex_one (ex_call gWhole (hr.mono (by decide)) pass0 (ea_cons (ex_ixT (ex_v 0) (EX.bo ex_int) rfl) ea_nil) ⟨_, rfl, rfl⟩)))))))) rfl) hp)
abbrev s_law_told_pair : Stmt := top 55
theorem sc_law_told_pair : FnScope ["_law_told_here"] ["_law_told_here"] (defScope s_law_told_pair) := ⟨rfl, rfl, rfl, by decide +kernel, rfl, by decide +kernel, by decide +kernel⟩
theorem ok_told_pair {f : Addr} {fd : FuncData} (F : Fun K "_law_told_pair" "_law_told_pair" s_law_told_pair f fd) (T : Glb mg) : FnOk P w K mg base CX0 1 f fd ["_law_told_here"] (spD K rToldPair) := by
  have nd := sc_law_told_pair.nd
  refine fn_okD F sc_law_told_pair (by rintro _ _ ⟨_, _, rfl, _⟩; rfl) (by decide) ?_
  rintro X _ post ⟨cdv, A, outer, s, H, E, rfl⟩ hr ⟨b, d, rfl, hp⟩
  refine sxs_one (sx_ret (EX.to (d' := .bl true) (ex_and (EX.bo (ex_isi (T := "tuple") T.isinst T.tuple (eb_v 0) (by decide +kernel) (by first | exact ki_tt | exact ki_lt | exact ki_it | exact ki_bt | exact ki_nt))) (fun hB => (ex_and (EX.bo (ex_eqI (EX.bo (ex_lenT T.len (eb_v 0))) (EX.bo ex_int))) (fun hB => (ex_one (ex_isi (T := "bool") T.isinst T.bool (eb_ixT (eb_v 0) (EX.bo ex_int) rfl) (by decide +kernel) (by first | exact ki_tb | exact ki_lb | exact ki_ib | exact ki_bb | exact ki_nb))))))) rfl) hp)
abbrev s_law_turns : Stmt := top 52
theorem sc_law_turns : FnScope ["_law_both_here", "_law_told_here", "_law_have", "_law_arrow_here", "_law_one", "_law_middle", "_law_first", "_law_other"] ["_law_both_here", "_law_told_here"] (defScope s_law_turns) := ⟨rfl, rfl, rfl, by decide +kernel, rfl, by decide +kernel, by decide +kernel⟩
theorem ok_turns {f : Addr} {fd : FuncData} (F : Fun K "_law_turns" "_law_turns" s_law_turns f fd) (T : Glb mg) (gPair : FnC P w K mg base CX0 2 "_law_pair" rPair) : FnOk P w K mg base CX0 3 f fd ["_law_both_here", "_law_told_here"] (spD K rTurns) := by
  have nd := sc_law_turns.nd
  refine fn_okD F sc_law_turns (by rintro _ _ ⟨_, _, rfl, _⟩; rfl) (by decide) ?_
  rintro X _ post ⟨cdv, A, outer, s, H, E, rfl⟩ hr ⟨ts, as, rfl, hl, hp⟩
  have hF : ¬ TurnsL ts as → post (.ret (.bl false)) := fun z => by
    rwa [turnsB_f z] at hp
  have hT : TurnsL ts as → post (.ret (.bl true)) := fun z => by
    rwa [turnsB_t z] at hp
  have hal : ∀ d ∈ as.map dP, ∃ d1 d2, d = D.tup [d1, d2] := fun d hd => by
    obtain ⟨p, _, rfl⟩ := List.mem_map.mp hd
    exact ⟨_, _, rfl⟩
  refine sxs_cons (sx_ifF (TX.to (tx_not (tx_val (EX.bo (ex_isi (T := "list") T.isinst T.list (eb_v 1) (by decide +kernel) (by first | exact ki_tl | exact ki_ll | exact ki_il | exact ki_bl | exact ki_nl))))) rfl) (sxs_nil ?_))
  refine sxs_cons (sx_setD 2 nd ed_new ?_)
  refine sxs_cons (sx_forL 3 (fun j cs => ∃ v, (∀ i a, i < j → as[i]? = some a → adj ts a.1 a.2 = true ∧ a ∉ as.take i ∧ sw a ∉ as.take i) ∧ cs = [.sh (bothD ts), .sh (.lst (as.map dP)), .od (dk (as.take j) fun _ => true), v, .any, .any, .any, .any]) rfl nd .never (ex_v 1) ⟨_, fun i a h => by omega, rfl⟩ ?_ ?_)
  · rintro j d _ hd ⟨v, hI, rfl⟩
    obtain ⟨a, ha, rfl⟩ := map_at hd
    have hj := (List.getElem?_eq_some_iff.mp ha).1
    refine sxs_cons (sx_if (k := !true || (!adj ts a.1 a.2 || (decide (a ∈ as.take j) || decide (sw a ∈ as.take j)))) ?_ (fun h => ?_) (fun h => sxs_nil ?_))
    · exact TX.to (WB.t (wx_or (tx_not (tx_val (EX.bo (ex_call gPair (hr.mono (by decide)) pass0 (ea_cons (ex_v 3) ea_nil) (by exact ⟨_, rfl, rfl⟩))))) (fun hB => (wx_or (tx_ninD hr (eb_v 3) (eb_v 0)) (fun hB => (wx_or (tx_inD hr (eb_v 3) (eb_v 2)) (fun hB => (wx_or1 (tx_inD hr (EX.bo (ex_tup (ea_cons (ex_ixT (ex_v 3) (EX.bo ex_int) rfl) (ea_cons (ex_ixT (ex_v 3) (EX.bo ex_int) rfl) ea_nil)))) (eb_v 2)))))))))) (by rw [both_has, lk_has, lk_has])
    · refine sxs_one (sx_ret ex_bl ?_)
      refine hF fun z => ?_
      obtain ⟨z1, z2, z3⟩ := z.1 j a ha
      simp [z1, z2, z3] at h
    · have hno : adj ts a.1 a.2 = true ∧ a ∉ as.take j ∧ sw a ∉ as.take j := by simpa using h
      refine sxs_one (sx_put 2 hr rfl ex_bl (ex_v 3) (by rw [dk_len, List.length_take]; omega) ?_)
      rw [put_addK (k := (a.1, a.2)), addK, if_neg hno.2.1, show as.take j ++ [(a.1, a.2)] = as.take (j + 1) by rw [List.take_add_one, ha]; rfl]
      refine ⟨_, fun i b hi hb => ?_, rfl⟩
      rcases Nat.lt_or_ge i j with q | q
      · exact hI i b q hb
      · obtain rfl : i = j := by omega
        rw [ha] at hb
        cases hb
        exact hno
  · rintro _ ⟨v, hI, rfl⟩
    rw [List.length_map] at hI
    rw [List.length_map, List.take_length]
    have hA : ∀ j a, as[j]? = some a → adj ts a.1 a.2 = true ∧ a ∉ as.take j ∧ sw a ∉ as.take j := fun j a ha => hI j a (List.getElem?_eq_some_iff.mp ha).1 ha
    refine sxs_cons (sx_if (k := !decide (2 * as.length = (bothK ts).length)) ?_ (fun h => ?_) (fun h => sxs_nil ?_))
    · refine TX.to (tx_neI (EX.bo (ex_mul (EX.bo ex_int) (EX.bo (ex_lenD T.len (eb_v 2))) (by first | decide | omega | assumption))) (EX.bo (ex_lenD T.len (eb_v 0)))) ?_
      rw [dk_len, dk_len]
      congr 1
      exact decide_eq_decide.mpr ⟨fun z => by omega, fun z => by omega⟩
    · refine sxs_one (sx_ret ex_bl ?_)
      exact hF fun z => by rw [decide_eq_true z.2.1] at h; cases h
    · have hN : 2 * as.length = (bothK ts).length := by simpa using h
      refine sxs_forLU 4 5 (fun j cs => ∃ v4 v5 v6 v7, (∀ i p, i < j → as[i]? = some p → ∀ q ∈ as, q.1 = p.2 → (p.1, q.2) ∈ as) ∧ cs = [.sh (bothD ts), .sh (.lst (as.map dP)), .od (dk as fun _ => true), v, v4, v5, v6, v7]) rfl nd .never (ex_v 1) hal ⟨_, _, _, _, fun i p h => by omega, rfl⟩ ?_ ?_
      · rintro j d1 d2 _ hd ⟨v4, v5, v6, v7, hG, rfl⟩
        obtain ⟨p, hpj, ep⟩ := map_at hd
        cases ep
        refine sxs_forLU 6 7 (fun i cs => ∃ v6 v7, (∀ k q, k < i → as[k]? = some q → q.1 = p.2 → (p.1, q.2) ∈ as) ∧ cs = [.sh (bothD ts), .sh (.lst (as.map dP)), .od (dk as fun _ => true), v, .sh (.int p.1), .sh (.int p.2), v6, v7]) rfl nd .never (ex_v 1) hal ⟨_, _, fun k q h => by omega, rfl⟩ ?_ ?_
        · rintro i e1 e2 _ hd2 ⟨v6, v7, hG2, rfl⟩
          obtain ⟨q, hqi, eq⟩ := map_at hd2
          cases eq
          refine sxs_one (sx_if (k := decide (q.1 = p.2) && !decide ((p.1, q.2) ∈ as)) ?_ (fun h => ?_) (fun h => sxs_nil ⟨_, _, fun k r hk hr => ?_, rfl⟩))
          · exact TX.to (WB.t (wx_and (tx_eqI (eb_v 6) (eb_v 5)) (fun hB => (wx_and1 (tx_ninD hr (EX.bo (ex_tup (ea_cons (ex_v 4) (ea_cons (ex_v 7) ea_nil)))) (eb_v 2)))))) (by rw [lk_has])
          · refine sxs_one (sx_ret ex_bl ?_)
            refine hF fun z => ?_
            have h := (Bool.and_eq_true _ _).mp h
            have := z.2.2 p (List.mem_of_getElem? hpj) q (List.mem_of_getElem? hqi) (of_decide_eq_true h.1)
            rw [decide_eq_true this] at h
            cases h.2
          · rcases Nat.lt_or_ge k i with w1 | w1
            · exact hG2 k r w1 hr
            · obtain rfl : k = i := by omega
              rw [hqi] at hr
              cases hr
              intro e
              rw [decide_eq_true e] at h
              simpa using h
        · rintro _ ⟨v6, v7, hG2, rfl⟩
          rw [List.length_map] at hG2
          refine sxs_nil ⟨_, _, _, _, fun i p' hi hp' => ?_, rfl⟩
          rcases Nat.lt_or_ge i j with w1 | w1
          · exact hG i p' w1 hp'
          · obtain rfl : i = j := by omega
            rw [hpj] at hp'
            cases hp'
            intro q hq e
            obtain ⟨k, hk, ek⟩ := List.mem_iff_getElem.mp hq
            exact hG2 k q hk (by rw [List.getElem?_eq_getElem hk, ek]) e
      · rintro _ ⟨v4, v5, v6, v7, hG, rfl⟩
        rw [List.length_map] at hG
        refine sxs_one (sx_ret ex_bl ?_)
        refine hT ⟨hA, hN, fun p hp q hq e => ?_⟩
        obtain ⟨k, hk, ek⟩ := List.mem_iff_getElem.mp hp
        exact hG k p hk (by rw [List.getElem?_eq_getElem hk, ek]) q hq e
end
end Lw

end
section
set_option maxHeartbeats 4000000
namespace Pn
open PySem PySem.Spec L2 DL
abbrev rTurned (c : At) : List D → (Out → Prop) → Prop := fun ds post => ∃ (n : Nat) (ts : List (Int × Int)), ds = [netD c n ts] ∧ (n ≤ 24 ∧ Tied n ts) ∧ post (.ret (.tup [.bl (turnedK n ts).1, .lst ((turnedK n ts).2.map dP)]))
theorem pairs_len2 (n : Nat) (ts : List (Int × Int)) : (pairsL n ts).length ≤ n * n := by
  unfold pairsL
  have := len_flat (f := fun a : Nat => ((nearL n ts (a : Int)).filter fun b => decide ((a : Int) < b)).map fun b => ((a : Int), b)) (B := n) (l := List.range n) fun a _ => by
    rw [List.length_map]
    exact Nat.le_trans (List.length_filter_le _ _) (near_len n ts _)
  rwa [List.length_range] at this
section
variable {P : Program} {w : World} {K : PySem.W.Frag} {mg : Str → Option Value} {base : Heap} {c : At} {ar : Addr}
abbrev sturned : Stmt := top 32
theorem scturned : FnScope ["net", "taken", "one", "other", "group", "arrow"] ["net"] (defScope sturned) := ⟨rfl, rfl, rfl, by decide +kernel, rfl, by decide +kernel, by decide +kernel⟩
theorem ok_turned {f fp : Addr} {fd fdp : FuncData} {psp : List Str} (F : Fun K "turned" "turned" sturned f fd) (T : LawK K mg c) (gLed : FnC P w K mg base (L2N.CX P w) 6 "led" (rLed c ar)) (gChainN : FnN P w K mg base (L2N.CX P w) 6 "chain" fun ds post => rChain c ar ds post ∧ ¬ post (.ret .non)) (mPairs : MtC P w K mg base CX0 1 c.net "pairs" fp fdp psp (rPairs c)) : FnOk P w K mg base CX0 7 f fd ["net"] (spT K (rTurned c)) := by
  have nd := scturned.nd
  refine fn_okT F scturned (by rintro _ _ ⟨_, _, rfl, _⟩; rfl) (by decide) ?_
  rintro X _ post ⟨cdv, A, outer, s, H, E, rfl⟩ hr ⟨n, ts, rfl, ⟨hn, ht⟩, hp⟩
  have hnn : n * n ≤ 576 := Nat.mul_le_mul hn hn
  unfold turnedK at hp
  refine sxq_cons (sx_setD 1 nd ed_new ?_)
  refine sxq_forLU 2 3 (fun j cs => ∃ tk v2 v3 v4 v5, turnGo n ts (pairsL n ts) [] = turnGo n ts ((pairsL n ts).drop j) tk ∧ (tk.Nodup ∧ ∀ x ∈ tk, x ∈ allP n) ∧ cs = [.sh (netD c n ts), .od (dk tk fun _ => true), v2, v3, v4, v5]) rfl nd .never (ex_meth0 (pe_meth0 pe_w T.cl mPairs.me mPairs.ok (hr.mono (by decide)) mPairs.bi .nil pass0) (ex_v 0) rfl (by exact ⟨n, ts, rfl, hn, rfl⟩)) (fun d hd => by obtain ⟨p, _, rfl⟩ := List.mem_map.mp hd; exact ⟨_, _, rfl⟩) ⟨[], _, _, _, _, rfl, ⟨.nil, nofun⟩, rfl⟩ ?_ ?_
  · rintro j d1 d2 _ hd ⟨tk, v2, v3, v4, v5, e, ⟨hnd, hal⟩, rfl⟩
    obtain ⟨p, hpj, ep⟩ := map_at hd
    cases ep
    have hpm := List.mem_of_getElem? hpj
    obtain ⟨hlt, hpa⟩ := (pairs_arrow ht).mp hpm
    have hpa2 : adj ts p.2 p.1 = true := by rw [adj_sym]; exact hpa
    obtain ⟨b1, b2⟩ := adj_pt ht hpa
    have b1 := isPt_iff.mp b1
    have b2 := isPt_iff.mp b2
    have hj := (List.getElem?_eq_some_iff.mp hpj).1
    have hdrop : (pairsL n ts).drop j = p :: (pairsL n ts).drop (j + 1) := by
      rw [List.drop_eq_getElem_cons hj]
      congr 1
      exact (List.getElem?_eq_some_iff.mp hpj).2
    rw [hdrop, turnGo] at e
    refine sxq_if (k := decide (p ∈ tk) || decide (sw p ∈ tk)) ?_ (fun h => ?_) (fun h => sxq_nil ?_)
    · exact TX.to (WB.t (wx_or (tx_inD hr (EX.bo (ex_tup (ea_cons (ex_v 2) (ea_cons (ex_v 3) ea_nil)))) (eb_v 1)) (fun hB => (wx_or1 (tx_inD hr (EX.bo (ex_tup (ea_cons (ex_v 3) (ea_cons (ex_v 2) ea_nil)))) (eb_v 1)))))) (by rw [lk_has, lk_has])
    · rw [if_pos (by simpa using h)] at e
      exact sxq_one (sx_continue ⟨tk, _, _, _, _, e, ⟨hnd, hal⟩, rfl⟩)
    · rw [if_neg (by simpa using h)] at e
      refine sxq_at [.sh (netD c n ts), .od (dk tk fun _ => true), .sh (.int p.1), .sh (.int p.2), v4, v5] rfl ?_
      refine sxq_cons (sx_set 4 nd (ex_call gLed (hr.mono (by decide)) passN (ea_cons (ex_v 0) (ea_cons (ex_tup (ea_cons (ex_v 2) (ea_cons (ex_v 3) ea_nil))) ea_nil)) (by exact ⟨n, ts, p.1, p.2, rfl, ⟨hn, ht, bd_small (by omega), bd_small (by omega)⟩, fun _ => rfl, fun z => (by rw [hpa] at z; cases z)⟩)) (sxq_if (k := decide (sw p ∈ ledL n ts p)) ?_ (fun h2 => ?_) (fun h2 => sxq_nil ?_)))
      · exact (tx_inP hr (EX.bo (ex_tup (ea_cons (ex_v 3) (ea_cons (ex_v 2) ea_nil)))) (eb_v 4))
      · rw [if_pos (of_decide_eq_true h2)] at e
        have hre := (led_mem ht hpa).mp (of_decide_eq_true h2)
        obtain ⟨hl, _⟩ := chainL_least hn ht hpa hre
        refine sxq_retT (b := false) ex_bl (eo_call gChainN (hr.mono (by decide)) passN (ea_cons (ex_v 0) (ea_cons (ex_tup (ea_cons (ex_v 2) (ea_cons (ex_v 3) ea_nil))) (ea_cons (ex_tup (ea_cons (ex_v 3) (ea_cons (ex_v 2) ea_nil))) ea_nil))) (xs := (chainL n ts p (sw p)).map dP) (by exact ⟨⟨n, ts, p, sw p, rfl, ⟨hn, ht, ⟨bd_small (by omega), bd_small (by omega)⟩, bd_small (by show -1000000 ≤ p.2 ∧ p.2 ≤ 1000000; omega), bd_small (by show -1000000 ≤ p.1 ∧ p.1 ≤ 1000000; omega)⟩, fun _ _ => ⟨fun z => absurd hre z, fun r hr => by rw [chain_uniq hr hl]⟩, fun z => (by rw [hpa, show adj ts (sw p).1 (sw p).2 = true from hpa2] at z; cases z)⟩, fun z => nomatch z⟩)) ?_
        have := hp
        rw [e] at this
        exact this
      · rw [if_neg (of_decide_eq_false h2)] at e
        have hll : (ledL n ts p).length ≤ 576 := Nat.le_trans led_len hnn
        have hbd : ∀ i, (((ledL n ts p).take i).foldl addK tk).length ≤ 576 := fun i => by
          have z := nodup_le (addL_nd (l := (ledL n ts p).take i) hnd) (u := allP n) fun x hx => by
            rcases addL_mem.mp hx with q | q
            · exact hal x q
            · exact reach_all ht hpa ((led_mem ht hpa).mp (List.mem_of_mem_take q))
          have := allP_len n
          omega
        refine sxq_one (sx_forL 5 (fun i cs => ∃ v5, cs = [.sh (netD c n ts), .od (dk (((ledL n ts p).take i).foldl addK tk) fun _ => true), .sh (.int p.1), .sh (.int p.2), .sh (.lst ((ledL n ts p).map dP)), v5]) rfl nd .never (ex_v 4) ⟨_, rfl⟩ ?_ ?_)
        · rintro i d _ hd2 ⟨v5', rfl⟩
          obtain ⟨q, hq, rfl⟩ := map_at hd2
          have hbi := hbd i
          have hs2 : (ledL n ts p).take (i + 1) = (ledL n ts p).take i ++ [q] := by rw [List.take_add_one, hq]; rfl
          refine sxs_one (sx_put 1 hr rfl ex_bl (ex_v 5) (by rw [dk_len]; omega) ?_)
          rw [put_addK (k := (q.1, q.2)), hs2, List.foldl_append]
          exact ⟨_, rfl⟩
        · rintro _ ⟨v5', rfl⟩
          rw [List.length_map, List.take_length]
          refine ⟨_, _, _, _, _, e, ⟨addL_nd hnd, fun x hx => ?_⟩, rfl⟩
          rcases addL_mem.mp hx with q | q
          · exact hal x q
          · exact reach_all ht hpa ((led_mem ht hpa).mp q)
  · rintro _ ⟨tk, v2, v3, v4, v5, e, ⟨hnd, hal⟩, rfl⟩
    rw [List.length_map, List.drop_length] at e
    rw [e] at hp
    refine sxq_frD 1 rfl ?_
    have T0 := T.toGlb
    refine sxq_retT (b := true) ex_bl (EO.to (eo_sortedD rfl T0.sorted (eb_v 1)) (show _ = (sortP tk).map dP by rw [dk_keys])) hp
end
end Pn

end
section
set_option maxHeartbeats 4000000
namespace Lw
open PySem PySem.Spec L2 DL
abbrev rClashes : List D → (Out → Prop) → Prop := fun ds post => ∃ (n : Nat) (ts r : List (Int × Int)), ds = [bothD ts, .int n, .lst (r.map dP)] ∧ (n ≤ 24 ∧ Tied n ts ∧ ClashOk n ts r) ∧ post (.ret (.bl true))
noncomputable abbrev turnedD (n : Nat) (ts : List (Int × Int)) : D := .tup [.bl (turnedK n ts).1, .lst ((turnedK n ts).2.map dP)]
abbrev rRight : List D → (Out → Prop) → Prop := fun ds post => ∃ (n : Nat) (ts : List (Int × Int)), ds = [bothD ts, .int n, turnedD n ts] ∧ (n ≤ 24 ∧ Tied n ts) ∧ post (.ret (.bl true))
theorem at_pair {l : List (Int × Int)} {i : Int} {j : Nat} (h : j < l.length) (e : i = (j : Int)) : atI (l.map dP) i = some (dP l[j]) := by
  rw [e]
  exact atI_nat (by rw [List.getElem?_map, List.getElem?_eq_getElem h]; rfl)
section
variable {P : Program} {w : World} {K : PySem.W.Frag} {mg : Str → Option Value} {base : Heap}
abbrev s_law_clashes : Stmt := top 54
theorem sc_law_clashes : FnScope ["_law_both_here", "_law_many", "_law_told_here", "_law_k", "_law_one"] ["_law_both_here", "_law_many", "_law_told_here"] (defScope s_law_clashes) := ⟨rfl, rfl, rfl, by decide +kernel, rfl, by decide +kernel, by decide +kernel⟩
theorem ok_clashes {f : Addr} {fd : FuncData} (F : Fun K "_law_clashes" "_law_clashes" s_law_clashes f fd) (T : Glb mg) (gPair : FnC P w K mg base CX0 2 "_law_pair" rPair) (gForces : FnC P w K mg base CX0 1 "_law_forces" rForces) : FnOk P w K mg base CX0 3 f fd ["_law_both_here", "_law_many", "_law_told_here"] (spD K rClashes) := by
  have nd := sc_law_clashes.nd
  refine fn_okD F sc_law_clashes (by rintro _ _ ⟨_, _, _, rfl, _⟩; rfl) (by decide) ?_
  rintro X _ post ⟨cdv, A, outer, s, H, E, rfl⟩ hr ⟨n, ts, r, rfl, ⟨hn, ht, hc⟩, hp⟩
  have hlen := clash_len hn ht hc
  obtain ⟨p, hpa, hl⟩ := hc
  have hnext := hl.1.next
  obtain ⟨t, e1⟩ := hl.1.head
  obtain ⟨u, e2⟩ := hl.1.last
  have hpos : 0 < r.length := by rw [e1]; simp
  have hat0 : atI (r.map dP) (0 : Int) = some (dP p) := by
    rw [e1]
    exact atI_nat (j := 0) rfl
  have hatl : atI (r.map dP) (-1) = some (dP (sw p)) := by
    rw [e2]
    exact at_last
  refine sxs_cons (sx_ifF (TX.to (k := !true || (decide (((r.map dP).length : Int) = 0) || !eqS (.lst []) (.lst []))) ?_ ?_) (sxs_nil ?_))
  · refine WB.t (wx_or (tx_not (tx_val (EX.bo (ex_isi (T := "list") T.isinst T.list (eb_v 2) (by decide +kernel) (by first | exact ki_tl | exact ki_ll | exact ki_il | exact ki_bl | exact ki_nl))))) (fun hB => (wx_or (tx_eqI (EX.bo (ex_lenL T.len (eb_v 2))) (EX.bo ex_int)) (fun hB => (wx_or1 (tx_neS hr (EO.bo (ds := []) (EO.to (ds := ((r.map dP).filter fun _ => !true).map fun d => d) (eo_of (pe_lc (own := [("_law_one", 4)]) (g := gName 4) rfl nd (pi_list pe_w) (blkOk_by (N := ["_law_both_here", "_law_many", "_law_told_here", "_law_k", "_law_one"]) (sc := defScope s_law_clashes) (by decide +kernel)) (fun _ _ _ _ _ => pg_name (i := 4) nd rfl (by first | exact Or.inl rfl | exact Or.inr rfl)) (pts_u) pe_u) (ro_Lif rfl (fun d => d) (fun _ => !true) (ex_v 2) (by rw [List.length_map]; omega) (fun j d hd => ?_) (fun j d hd hp2 _ _ _ _ _ => ex_v 4))) (by rw [Bool.not_true, filter_no]; rfl))) (EO.bo (eo_lst ea_nil)) (n := 1) (m := 1) (by intro _ h; cases h) (by intro _ h; cases h)))))))
    obtain ⟨q, _, rfl⟩ := map_at hd
    intro _ _ _ _ _
    exact tx_not (tx_val (EX.bo (ex_call gPair (hr.mono (by decide)) pass0 (ea_cons (ex_v 4) ea_nil) (by exact ⟨q, rfl, rfl⟩))))
  · have q0 : eqS (.lst []) (.lst []) = true := (eqS_iff (n := 1) (m := 1) (by intro _ h; cases h) (by intro _ h; cases h)).mpr rfl
    have z : ¬ (((r.map dP).length : Int) = 0) := by rw [List.length_map]; omega
    rw [q0, decide_eq_false z]
    rfl
  refine sxs_cons (sx_ifF (TX.to (WB.t (wx_or (tx_ninD hr (eb_ixL (eb_v 2) (EX.bo ex_int) (by first | exact hat0 | exact hatl)) (eb_v 0)) (fun hB => (wx_or1 (tx_neS hr (eb_ixL (eb_v 2) (EX.bo (ex_neg (EX.bo ex_int))) (by first | exact hat0 | exact hatl)) (EX.bo (ex_tup (ea_cons (ex_ixT (ex_ixL (ex_v 2) (EX.bo ex_int) (by first | exact hat0 | exact hatl)) (EX.bo ex_int) rfl) (ea_cons (ex_ixT (ex_ixL (ex_v 2) (EX.bo ex_int) (by first | exact hat0 | exact hatl)) (EX.bo ex_int) rfl) ea_nil)))) (sh_dP _) (sh_dP (sw p))))))) ?_) (sxs_nil ?_))
  · have q0 : eqS (dP (sw p)) (D.tup [.int p.2, .int p.1]) = true := (eqS_iff (sh_dP (sw p)) (sh_dP (sw p))).mpr rfl
    rw [both_has, hpa, q0]
    rfl
  refine sxs_cons (sx_forR2 3 (fun j cs => ∃ v3 v4, cs = [.sh (bothD ts), .sh (.int n), .sh (.lst (r.map dP)), v3, v4]) rfl nd .never T.range (EX.bo ex_int) (EX.bo (ex_lenL T.len (eb_v 2))) (by rw [List.length_map]; omega) ⟨_, _, rfl⟩ ?_ ?_)
  · rintro j _ hj ⟨v3, v4, rfl⟩
    rw [List.length_map] at hj
    have hj1 : j + 1 < r.length := by omega
    have hk1 : atI (r.map dP) ((1 : Int) + (j : Int)) = some (dP r[j + 1]) := at_pair hj1 (by omega)
    have hk0 : atI (r.map dP) ((1 : Int) + (j : Int) - 1) = some (dP r[j]) := at_pair (by omega) (by omega)
    have hm := hnext j hj1
    refine sxs_one (sx_ifF (TX.to (tx_ninP hr (eb_ixL (eb_v 2) (eb_v 3) (by first | exact hk1 | exact hk0)) (EX.bo (ex_call gForces (hr.mono (by decide)) pass0 (ea_cons (ex_v 0) (ea_cons (ex_v 1) (ea_cons (ex_ixL (ex_v 2) (EX.bo (ex_sub (eb_v 3) (EX.bo ex_int))) (by first | exact hk1 | exact hk0)) ea_nil))) (by exact ⟨n, ts, _, rfl, hn, rfl⟩)))) ?_) (sxs_nil ⟨_, _, rfl⟩))
    simp only [Bool.not_eq_false', decide_eq_true_eq]
    exact hm
  · rintro _ ⟨v3, v4, rfl⟩
    refine sxs_one (sx_ret ex_bl ?_)
    exact hp
end
end Lw

end
section
set_option maxHeartbeats 2000000
namespace DL
open PySem PySem.Spec L2
theorem SR.later {K : PySem.W.Frag} {He Hb H0 H H' : Hp} {σ : St} {cs : List C} (s : SR K He Hb H0 H σ cs) (no : ∀ c ∈ cs, c.own = false) (i : Same H0 H') (h : Same Hb H') : SR K He Hb H0 H' σ cs := by
  refine ⟨⟨s.gr.b, i, h, s.gr.n⟩, s.len, fun j c e => ?_, fun j c l e o => ?_, fun j k c c' l ne e e' o => ?_⟩
  · have z := s.sl j c e
    have n := no c (List.mem_of_getElem? e)
    cases c with
    | any => trivial
    | sh d => exact z
    | ol ds => cases n
    | od ds => cases n
  · rw [no c (List.mem_of_getElem? e)] at o; cases o
  · rw [no c (List.mem_of_getElem? e)] at o; cases o
theorem no_by {cs : List C} (h : (cs.all fun c => !c.own) = true) : ∀ c ∈ cs, c.own = false := fun c hc => by
  have := List.all_eq_true.mp h c hc
  simpa using this
theorem no_set {cs : List C} (no : ∀ c ∈ cs, c.own = false) {i : Nat} {c0 : C} (h : c0.own = false) : ∀ c ∈ cs.set i c0, c.own = false := fun c hc => by
  rcases List.mem_or_eq_of_mem_set hc with z | z
  · exact no c z
  · rw [z]; exact h
section
variable {X : Cx} {cs : List C} {R : List D → (Out → Prop) → Prop} {ds xs : List D} {b : Bool} {CX : CXT} {g : Str} {k : Nat} {es : List Expr} {e : Expr} {p pos : Pos} {E0 : XK}
/-- a call whose answer is a new tuple of a word and a new list -/
theorem wE_callT (F : FnT X.prog X.w X.K X.mg X.base CX k g R) (hr : Room k X.A) (hx : Passes CX X E0) (ha : EA X cs (e :: es) ds) (h : R ds (fun o => o = .ret (.tup [.bl b, .lst xs]))) (hg : Gl X g) (hdb : (g == ("__debug__" : Str)) = false) (hs : Pl e) (hpl : (backTo pos (starEach es X.env)).any (·.1) = false)
    {He Hb H0 H : Hp} {σ : St} {Q : VK} (s : SR X.K He Hb H0 H σ cs) (q : ∀ t l ws H' H0', Grow H0 H H0' H' → H l = none → H0' l = none → H t = none → H0' t = none → t ≠ l → H' t = some (.tup [.bl b, .ref l]) → H' l = some (.lst ws) → RepA X.K H0' ws xs → Q (.ref t) H') : wE X (.Call (.Name g p) (e :: es) [] pos) σ H Q := by
  obtain ⟨f, fd, ps, ok, hm, hk, hb⟩ := F.ex
  exact wE_of (pe_call ok hr hg hm hk hb .nil hx pa_w hdb (hs _ _) hpl) (ha _ _ _ _ _ _ s fun vs H1 H01 g1 r1 => ⟨H01, ds, _, g1.i, by rw [List.append_nil]; exact r1, h, fun b' ds' t l ws H3 H03 e g3 hl h0 ht h0t hne et el rw => by cases e; exact q _ _ _ _ _ (g1.trans g3) (g1.h.free hl) h0 (g1.h.free ht) h0t hne et el rw, fun _ _ e => nomatch e⟩)
/-- told = g(..); a test of it that says no; told[1].clear(); what follows doesn't read told -/
theorem sxs_lendIf (i : Nat) {x : Str} {c : Expr} {A rest : List Stmt} {F : DE} {px p3 p4 p5 pos1 pos2 pos3 ap cp : Pos} {k5 : Nat} (hN : X.N.Nodup) (G : FnT X.prog X.w X.K X.mg X.base CX k g R) (hr : Room k X.A) (hx : Passes CX X E0) (ha : EA X cs (e :: es) ds) (h : R ds (fun o => o = .ret (.tup [.bl b, .lst xs])))
    (no : ∀ c ∈ cs, c.own = false) (hc : TX X (cs.set i (.sh (.tup [.bl b, .lst xs]))) c false) (hrest : SXs X (cs.set i .any) rest F)
    (hg : Gl X g := by rfl) (hdb : (g == ("__debug__" : Str)) = false := by decide) (hs : Pl e := by intro _ _; rfl) (hpl : (backTo pos (starEach es X.env)).any (·.1) = false := by rfl)
    (hi : X.N[i]? = some x := by rfl) (hlo : Loc X.env.scope x := by first | exact Or.inl rfl | exact Or.inr rfl) (hsw : swapsWith (.Call (.Name g p) (e :: es) [] pos) (some (.Name x px)) pos1.line X.env = pure false := by rfl) (hf : X.fn x = true ∨ X.env.scope.names.lookup x = some .local := by first | exact .inl rfl | exact .inr rfl)
    (hv : Vis X.env.scope x := by first | exact Or.inl rfl | exact Or.inr (Or.inl rfl) | exact Or.inr (Or.inr rfl)) (hd : (x == ("__debug__" : Str)) = false := by decide) (hcd : (x == ("__classdict__" : Str)) = false := by decide)
    (hcl : PE X (.Subscript (.Name x p3) (.Constant (.int 1) k5 p5) p4) (tOp (rIxT X.K) (tVar i) (tC (.int 1))) → PS X (.Expr (.Call (.Attribute (.Subscript (.Name x p3) (.Constant (.int 1) k5 p5) p4) "clear" ap) [] [] cp) pos3) (tDrop (tBM0 X.K "list" rClear (tOp (rIxT X.K) (tVar i) (tC (.int 1))))) := by
      intro h; exact ps_expr (pe_bm0 PySem.F.plainAttrs_list PySem.F.slot_list_clear PySem.F.type_list_clear mt_clear h)) (hpx : PlainIx (.Constant (.int 1) k5 p5) := by intro _ _; rfl) (hin : i < cs.length := by exact Nat.le_of_ble_eq_true rfl) :
    SXs X cs (.Assign [.Name x px] (.Call (.Name g p) (e :: es) [] pos) pos1 :: .If c A [] pos2 :: .Expr (.Call (.Attribute (.Subscript (.Name x p3) (.Constant (.int 1) k5 p5) p4) "clear" ap) [] [] cp) pos3 :: rest) F := fun He Hb H0 H σ E s q => by
  refine wSs_of (pss_cons (ps_set hN hi hlo pe_w hsw hf) pss_w) ?_
  refine wE_callT G hr hx ha h hg hdb hs hpl s fun t l ws H1 H01 g1 hl h0 ht h0t hne et el rw => ?_
  have s0 : SR X.K He Hb H01 H1 (σ.set i (some (.ref t))) (cs.set i .any) := (s.grow g1).setAny i _
  have hσ : (σ.set i (some (.ref t)))[i]? = some (some (V.ref t)) := List.getElem?_set_self (by rw [s.len]; exact hin)
  have hbl : Hb l = none := s.gr.h.free hl
  have gF := (g1.freeze hl h0 el).freeze (o := .tup [.bl b, .ref l]) ht (by rw [upd_ne hne]; exact h0t) et
  have hrep : Rep X.K (upd (upd H01 l (.lst ws)) t (.tup [.bl b, .ref l])) (.ref t) (.tup [.bl b, .lst xs]) := by
    refine .tup upd_same (.cons (.bl b) (.cons (.lst (xs := ws) ?_ ?_) .nil))
    · rw [upd_ne hne.symm]; exact upd_same
    · exact (rw.mono (same_upd h0)).mono (same_upd (by rw [upd_ne hne]; exact h0t))
  have sF := (s.grow gF).set (i := i) hrep
  refine wSs_of (pss_cons (ps_if pt_w pss_w pss_nil) pss_w) (hc _ _ _ _ _ _ sF fun H2 H02 g2 => ?_)
  have et2 : H2 t = some (.tup [.bl b, .ref l]) := g2.h _ _ et
  have el2 : H2 l = some (.lst ws) := g2.h _ _ el
  refine wSs_of (pss_cons (hcl (pe_ix ix_tup (pe_var hi hv hd hcd) pe_int hpx)) pss_w) ?_
  refine ⟨_, hσ, ?_⟩
  refine ⟨t, _, 1, .ref l, rfl, rfl, SqT.of et2, rfl, .inl ⟨rfl, _, SqL.of el2⟩, l, ws, rfl, rfl, el2, ?_⟩
  refine hrest _ _ _ _ _ _ (s0.later (no_set no rfl) (fun a u e => ?_) (fun a u e => ?_)) (q.mono g1.b)
  · rw [upd_ne (ne_of_none e h0)]; exact g2.h _ _ (g1.i _ _ e)
  · rw [upd_ne (ne_of_none e hbl)]; exact g2.h _ _ (g1.h _ _ (s.gr.h _ _ e))
end
/-- a slot's content is forgotten -/
theorem sxs_drop {X : Cx} {cs : List C} {sts : List Stmt} {F : DE} (i : Nat) (h : SXs X (cs.set i .any) sts F) : SXs X cs sts F := fun He Hb H0 H σ E s q => by
  cases e : σ[i]? with
  | some o => exact h _ _ _ _ _ _ (s.setAny' i e) q
  | none =>
    have hi : cs.length ≤ i := by rw [← s.len]; exact List.getElem?_eq_none_iff.mp e
    rw [List.set_eq_of_length_le hi] at h
    exact h _ _ _ _ _ _ s q
section
variable {X : Cx} {cs : List C} {a b : Expr} {pos : Pos} {m n : Bool}
theorem isB_of {K : PySem.W.Frag} : ∀ x y H (Q : VK), Rep K H x (.bl m) → Rep K H y (.bl n) → Q (.bl (decide (m = n))) H → rIsB x y H Q := fun x y H Q r1 r2 q => by
  cases r1
  cases r2
  exact ⟨_, _, rfl, rfl, q⟩
theorem notB_of {K : PySem.W.Frag} : ∀ x y H (Q : VK), Rep K H x (.bl m) → Rep K H y (.bl n) → Q (.bl (!decide (m = n))) H → rNotB x y H Q := fun x y H Q r1 r2 q => by
  cases r1
  cases r2
  exact ⟨_, _, rfl, rfl, q⟩
theorem ex_isB (ha : EB X cs a (.bl m)) (hb : EB X cs b (.bl n)) (hm : behindInMarks .Is b = false := by rfl) : EX X cs (.Compare a [.Is] [b] pos) (.bl (decide (m = n))) := eb_cmp op_isBl ha hb hm (fun _ => .bl _) isB_of
theorem ex_notB (ha : EB X cs a (.bl m)) (hb : EB X cs b (.bl n)) (hm : behindInMarks .IsNot b = false := by rfl) : EX X cs (.Compare a [.IsNot] [b] pos) (.bl (!decide (m = n))) := eb_cmp op_notBl ha hb hm (fun _ => .bl _) notB_of
theorem tx_isB (ha : EB X cs a (.bl m)) (hb : EB X cs b (.bl n)) (hm : behindInMarks .Is b = false := by rfl) : TX X cs (.Compare a [.Is] [b] pos) (decide (m = n)) := tx_cmp op_isBl ha hb hm isB_of
theorem tx_notB (ha : EB X cs a (.bl m)) (hb : EB X cs b (.bl n)) (hm : behindInMarks .IsNot b = false := by rfl) : TX X cs (.Compare a [.IsNot] [b] pos) (!decide (m = n)) := tx_cmp op_notBl ha hb hm notB_of
end
end DL

end
section
set_option maxHeartbeats 2000000
namespace DL
open PySem PySem.Spec L2 L2H HotX
/-! loops over a list, and the taking apart of tuples, while an error is handled -/
section
variable {prog : Program} {w : World} {A : Around} {E : Value → Shared → Prop} {s : Shared}
theorem hot_keep {x1 it : Addr} {o : Obj} {vs : Array Value} (hot : HotAt A x1 s.heap) (ho : s.heap.get? it = some o) (hd : o.data = .fields vs) (h2 : vs[2]? = none) : x1 ≠ it := fun e => by
  obtain ⟨_, o1, vs1, h1, d1, c1⟩ := hot
  rw [e, ho] at h1
  cases h1
  rw [hd] at d1
  cases d1
  rw [h2] at c1
  cases c1
theorem stop_hot {α : Type} {x1 it : Addr} {f : Obj → Obj} {Q : α → Shared → Prop} {Ex E' : Value → Shared → Prop} (hot : HotAt A x1 s.heap) (hne : x1 ≠ it) (hQ : ∀ h' a o, h'.get? a = some o → o.cls = .type "StopIteration" → (∀ b o, b ≠ it → s.heap.get? b = some o → h'.get? b = some o) → Ex (.ref a) { s with heap := h' }) :
    wpAny (model prog w) A (newExc (.type "StopIteration") []) (fun v s1 => wpAny (model prog w) A (raiseNew v : Sem α) Q Ex s1) E' { s with heap := s.heap.update it f } := by
  obtain ⟨hh, o1, vs1, h1, d1, c1⟩ := hot
  have k1 : (s.heap.update it f).get? x1 = some o1 := by rw [Heap.get?_update_other _ _ (fun e => hne e.symm)]; exact h1
  simp only [newExc, newTuple]
  refine wpAny_bind (wpAny_newObj_type (wpAny_bind (m := firstArgMember _ _) (wpAny_of_eq (a := Value.none) (by first | rfl | (simp only [firstArgMember]; rfl)) (wpAny_newObj_type ?_ (by size_fits)))) (by size_fits))
  refine raiseNew_hot (x1 := x1) ⟨hh, o1, vs1, Heap.get?_push_of_some _ (Heap.get?_push_of_some _ k1), d1, c1⟩ (Nat.ne_of_lt (Heap.lt_size (Heap.get?_push_of_some _ k1))) (Heap.get?_push_size _ rfl) rfl (by first | (simp; done) | (simp; omega)) ?_
  refine hQ _ _ _ (Heap.get?_update_self _ (Heap.get?_push_size _ rfl) rfl) rfl fun b o hb e => ?_
  have e2 : (s.heap.update it f).get? b = some o := by rw [Heap.get?_update_other _ _ (fun z => hb z.symm)]; exact e
  rw [Heap.get?_update_other _ _ (Nat.ne_of_gt (Heap.lt_size (Heap.get?_push_of_some _ e2)))]
  exact Heap.get?_push_of_some _ (Heap.get?_push_of_some _ e2)
theorem list_end_hot {x1 it l : Addr} {i : Nat} {items : Array Value} {Q : Option Value → Shared → Prop} (hot : HotAt A x1 s.heap) (hit : s.heap.IsListIter it l i) (hl : s.heap.IsList l items) (hx : items[i]? = none)
    (hQ : ∀ h', (∀ b o, b ≠ it → s.heap.get? b = some o → h'.get? b = some o) → Q none { s with heap := h' }) : wpAny (model prog w) A (pyNext (.ref it)) Q E s := by
  obtain ⟨o, ho, hc, hd⟩ := id hit
  obtain ⟨ol, hol, _, nl, hdl⟩ := hl
  have hne := hot_keep hot ho hd rfl
  have hot2 : HotAt A.in1 x1 s.heap := hot
  unfold pyNext
  refine wpAny_bind (wpAny_attempt (wpAny_callSpecial?_slot (name := Str.ofString "__next__") hit.typeIs slot_listiter_next (wpAny_call_entry slot_listiter_next hit.typeIs entry_listiter_next ?_ (args_listiter_next _))))
  refine wpAny_bind (m := field (.ref it) 0) (wpAny_field ho hd (x := .ref l) rfl ?_)
  rw [if_neg (show ¬ ((Value.ref l == Value.none) = true) from Bool.false_ne_true)]
  refine wpAny_bind (m := field (.ref it) 1) (wpAny_field ho hd (x := .int i 0) rfl (wpAny_bind (m := seqItems? (.ref l)) (wpAny_seqItems hol hdl ?_)))
  simp only [Int.toNat_natCast, hx]
  refine wpAny_bind (wpAny_rule (wpAny_bind (wpAny_setField ho hd (by simp) ?_)))
  refine wpAny_bind (m := newExc (.type "StopIteration") []) (stop_hot hot2 hne fun h' a o ha hcl hk => ?_)
  exact wpAny_bind (wpAny_isInstance (T := "StopIteration") (b := true) ⟨_, ha, hcl⟩ isSubtype_stop (wpAny_pure (hQ _ hk)))
theorem tuple_end_hot {x1 it t : Addr} {i : Nat} {items : Array Value} {Q : Option Value → Shared → Prop} (hot : HotAt A x1 s.heap) (hit : s.heap.IsTupleIter it t i) (ht : s.heap.IsTuple t items) (hx : items[i]? = none)
    (hQ : ∀ h', (∀ b o, b ≠ it → s.heap.get? b = some o → h'.get? b = some o) → Q none { s with heap := h' }) : wpAny (model prog w) A (pyNext (.ref it)) Q E s := by
  obtain ⟨o, ho, hc, hd⟩ := id hit
  obtain ⟨ol, hol, _, nl, hdl⟩ := ht
  have hne := hot_keep hot ho hd rfl
  have hot2 : HotAt A.in1 x1 s.heap := hot
  unfold pyNext
  refine wpAny_bind (wpAny_attempt (wpAny_callSpecial?_slot (name := Str.ofString "__next__") hit.typeIs F.slot_tuple_iterator_next (wpAny_call_entry F.slot_tuple_iterator_next hit.typeIs F.entry_tuple_iterator_next ?_ (F.args_tuple_iterator_next_1 _))))
  refine wpAny_bind (m := field (.ref it) 0) (wpAny_field ho hd (x := .ref t) rfl ?_)
  rw [if_neg (show ¬ ((Value.ref t == Value.none) = true) from Bool.false_ne_true)]
  refine wpAny_bind (m := field (.ref it) 1) (wpAny_field ho hd (x := .int i 0) rfl (wpAny_bind (m := seqItems? (.ref t)) (wpAny_seqItems hol hdl ?_)))
  simp only [Int.toNat_natCast, hx]
  refine wpAny_bind (wpAny_rule (wpAny_bind (wpAny_setField ho hd (by simp) ?_)))
  refine wpAny_bind (m := newExc (.type "StopIteration") []) (stop_hot hot2 hne fun h' a o ha hcl hk => ?_)
  exact wpAny_bind (wpAny_isInstance (T := "StopIteration") (b := true) ⟨_, ha, hcl⟩ isSubtype_stop (wpAny_pure (hQ _ hk)))
theorem unpack_hot {env : Env} {elts : List Expr} {k : Nat} {pos : Pos} {x1 t : Addr} {items : Array Value} {Q : Unit → Shared → Prop} (hot : HotAt A x1 s.heap) (ht : s.heap.IsTuple t items) (hn : (assignEach elts env).length = items.size) (hst : (assignEach elts env).findIdx? (·.1) = none)
    (h : ∀ h', (∀ b o, s.heap.get? b = some o → h'.get? b = some o) → wpAny (model prog w) A (assignInOrder ((assignEach elts env).map (·.2)) items.toList) Q E { s with heap := h' }) : wpAny (model prog w) A (assign (.Tuple elts k pos) env (.ref t)) Q E s := by
  have hlt : t ≠ s.heap.objs.size := by obtain ⟨o, ho, _⟩ := ht; exact Nat.ne_of_lt (Heap.lt_size ho)
  rw [arm_assign_Tuple]
  refine wpAny_bind (wpAny_standAt ?_)
  unfold unpack
  rw [hn, hst]
  refine wpAny_bind (wpAny_holding ?_)
  unfold unpackItems
  refine wpAny_bind ?_
  unfold notIterableAtAll
  refine wpAny_bind (wpAny_specialOf ht.typeIs F.slot_tuple_iter.lookup (wpAny_pure ?_))
  simp only [Bool.false_eq_true, if_false]
  refine wpAny_bind (wpAny_holding (wpAny_pyIter_tuple ht (wpAny_bind (wpAny_holding (wpAny_draw_tuple hlt items.size 0 _ _ ⟨_, Heap.get?_push_size _ rfl, rfl, rfl⟩ (ht.push _) (by omega) fun h₁ hit₁ hs₁ => ?_)))))
  rw [show List.take items.size (List.drop 0 items.toList) = items.toList by rw [List.drop_zero]; exact List.take_of_length_le (by simp), if_neg (by simp)]
  have ke : ∀ b o, s.heap.get? b = some o → h₁.get? b = some o := fun b o e => hs₁.extBut b o (Nat.ne_of_lt (Heap.lt_size e)) (Heap.get?_push_of_some _ e)
  have hot1 : HotAt A x1 h₁ := by
    obtain ⟨hh, o1, vs1, h1, d1, c1⟩ := hot
    exact ⟨hh, o1, vs1, ke _ _ h1, d1, c1⟩
  refine wpAny_bind (wpAny_holding (tuple_end_hot (s := { s with heap := h₁ }) hot1 hit₁ ((ht.push _).extBut hs₁.extBut hlt) (by simp) fun h₂ he₂ => ?_))
  simp only [Option.isSome_none, Bool.false_eq_true, if_false]
  exact wpAny_pure (h h₂ fun b o e => he₂ b o (Nat.ne_of_lt (Heap.lt_size e)) (ke b o e))
end
theorem pg_tupH {X : Cx} {es : List Expr} {k : Nat} {pos : Pos} {t : TGs} {n : Nat} (hc : HotC X) (h : PGs X es t) (hn : (assignEach es X.env).length = n := by rfl) (hst : (assignEach es X.env).findIdx? (·.1) = none := by rfl) : PG X (.Tuple es k pos) (gTup X.K n t) := by
  refine ⟨fun pins s σ H v u Q I r hw => ?_⟩
  obtain ⟨a, xs, rfl, hq, hl, hw⟩ := hw
  cases r
  obtain ⟨its, rv, ht, hz⟩ := I.tuple hq
  obtain ⟨x1, hot⟩ := hc.at I
  exact unpack_hot hot (items := its.toArray) ht (by simp [hn, ← hl, rv.length]) hst fun h' hx => h.run pins _ σ H xs _ Q (I.kept (t' := s.toks) hx) (by simpa using rv) hw
end DL
namespace DL
open PySem PySem.Spec L2 L2H HotX
theorem turn_listH {P : Program} {w : World} {K : PySem.W.Frag} {tg : Expr} (a it : Addr) : TurnH P w K tg (Itl K a) [it] it (fun i h => h.IsListIter it a i) where
  mem := List.mem_singleton.mpr rfl
  obj := fun i h st b hb => by
    obtain rfl := List.mem_singleton.mp hb
    obtain ⟨o, e, _, d⟩ := st
    exact ⟨o, e, fun v z => nomatch (d.symm.trans z)⟩
  keep := fun i h h' st k => st.at fun o e => k it (List.mem_singleton.mpr rfl) o e
  item := by
    rintro X rfl rfl rfl _ i pins s σ H E I hf st ⟨xs, x, hq, hx⟩
    obtain ⟨its, rv, p, _⟩ := I.list hq
    obtain ⟨u, hu, ru⟩ := rv.get hx
    obtain ⟨f0, f1, f2, f3, f4, f5⟩ := hf it (List.mem_singleton.mpr rfl)
    refine wpAny_pyNext_list_item st p.isList (x := u) (by simpa using hu) fun h' st' sb => ?_
    obtain ⟨o, e, c, d⟩ := id st'
    exact ⟨u, rfl, go_of (s := { s with heap := h' }) e c d (by decide) ⟨x, H, I.turned (t' := s.toks) (fun b o hb e => (sb.2 b hb).trans e) f0 f1 f3 f4 f5, ru, ⟨rfl, fun ys hy => by rw [I.list_inj hy hq]; exact hx⟩, st', fun b hb => (hf b hb).1⟩⟩
  done := by
    rintro X rfl rfl rfl hc i pins s σ H E I hf st ⟨xs, hq, hx⟩
    obtain ⟨its, rv, p, _⟩ := I.list hq
    obtain ⟨f0, f1, f2, f3, f4, f5⟩ := hf it (List.mem_singleton.mpr rfl)
    have hl := rv.length
    obtain ⟨x1, hot⟩ := hc.at I
    exact list_end_hot hot st p.isList (by simp; omega) fun h' eb => ⟨rfl, I.turned (t' := s.toks) (fun b o hb e => eb b o hb e) f0 f1 f3 f4 f5⟩
  self := fun _ _ _ _ _ st h => wpAny_pyIter_listiter st h
theorem pi_listH {X : Cx} {tg l : Expr} {tl : TE} (hl : PE X l tl) : PIH X tg l (iList X.K tl) := by
  refine ⟨fun pins s σ H R I h => thn (hl.run pins s σ H _ I h) ?_⟩
  rintro v s1 ⟨x, H1, I1, r1, a, rfl, ⟨xs, hq⟩, q⟩
  cases r1
  obtain ⟨its, rv, p, _⟩ := I1.list hq
  refine wpAny_pyIter_list p.isList ⟨s1.heap.objs.size, [s1.heap.objs.size], _, _, H1, rfl, I1.kept (t' := s1.toks) (fun b o e => Heap.get?_push_of_some _ e), turn_listH a _, ⟨_, Heap.get?_push_size _ rfl, rfl, rfl⟩, fun b hb => ?_, q⟩
  obtain rfl := List.mem_singleton.mp hb
  exact I1.fpOk (Nat.le_refl _) (I1.hok.fresh (Nat.le_refl _))
section
variable {X : Cx} {cs : List C} {it : Expr} {sts body : List Stmt} {pos px py pt : Pos} {F : DE} {ds : List D}
/-- for x, y in a list of pairs, while an error is handled -/
theorem sxs_forLUH (i k : Nat) {x y : Str} {k0 : Nat} (P : Nat → List C → Prop) (hcl : HotC X) (hN : X.N.Nodup) (hp : PassesOwn (model X.prog X.w) X.A X.env X.xe) (hit : EX X cs it (.lst ds)) (ht : ∀ d ∈ ds, ∃ d1 d2, d = .tup [d1, d2]) (h0 : P 0 cs)
    (hs : ∀ j d1 d2 cs', ds[j]? = some (.tup [d1, d2]) → P j cs' → SXs X ((cs'.set i (.sh d1)).set k (.sh d2)) body { F with nx := P (j + 1), ct := P (j + 1), bk := fun cs' => SXs X cs' sts F }) (hd : ∀ cs', P ds.length cs' → SXs X cs' sts F)
    (hi : X.N[i]? = some x := by rfl) (hk : X.N[k]? = some y := by rfl) (hx : Loc X.env.scope x := by first | exact Or.inl rfl | exact Or.inr rfl) (hy : Loc X.env.scope y := by first | exact Or.inl rfl | exact Or.inr rfl)
    (hf : X.fn x = true ∨ X.env.scope.names.lookup x = some .local := by first | exact .inl rfl | exact .inr rfl) (hf2 : X.fn y = true ∨ X.env.scope.names.lookup y = some .local := by first | exact .inl rfl | exact .inr rfl) (hfo : ∀ x, foldedSetIterable it X.env x = pure x := by intro _; rfl)
    (hg : ∀ (t : TGs), PGs X [.Name x px, .Name y py] t → PG X (.Tuple [.Name x px, .Name y py] k0 pt) (gTup X.K 2 t) := by intro t h; exact pg_tupH (by assumption) h)
    (hg2 : PGs X [.Name x px, .Name y py] (gCons (gName i) (gCons (gName k) gNil)) := by exact pgs_cons (pg_name (by assumption) rfl (by first | exact Or.inl rfl | exact Or.inr rfl)) (pgs_cons (pg_name (by assumption) rfl (by first | exact Or.inl rfl | exact Or.inr rfl)) pgs_nil)) :
    SXs X cs (.For (.Tuple [.Name x px, .Name y py] k0 pt) it body [] pos :: sts) F := fun He Hb H0 H σ E s q =>
  wSs_of (pss_cons (ps_forH hp hcl (pi_listH pe_w) (hg _ hg2) pss_w hfo) pss_w) (hit _ _ _ _ _ _ s fun v H1 H01 g r => by
    cases r with
    | @lst a vs _ hl r =>
      refine ⟨a, rfl, ⟨vs, SqL.of (g.i _ _ hl)⟩, for_list (K := X.K) (a := a) (xs := vs) (fun j σ' H' => ∃ H0' cs', Same H01 H0' ∧ SR X.K He Hb H0' H' σ' cs' ∧ P j cs') ⟨H01, cs, Same.refl _, s.grow g, h0⟩
        (fun j σ' H' _ ⟨H0', cs', e, s', _⟩ => SqL.of (s'.i _ _ (e _ _ hl))) (fun j y σ' H' hj ⟨H0', cs', e, s', hP⟩ => ?_) (fun σ' H' ⟨H0', cs', e, s', hP⟩ => ?_)⟩
      · obtain ⟨d, hd', rd⟩ := r.get hj
        obtain ⟨d1, d2, rfl⟩ := ht d (List.mem_of_getElem? hd')
        cases rd with
        | tup hta rta =>
          cases rta with
          | cons ra rta =>
            cases rta with
            | cons rb rta =>
              cases rta
              refine ⟨_, _, rfl, SqT.of (s'.i _ _ (e _ _ hta)), rfl, _, _, rfl, _, _, rfl, rfl, ?_⟩
              exact hs j d1 d2 cs' hd' hP _ _ _ _ _ _ ((s'.set (ra.mono e)).set (rb.mono e)) ⟨fun cs2 H2 H3 σ3 e2 s2 h2 => ⟨H2, cs2, e.trans e2, s2, h2⟩, q.rt, fun cs2 H2 H3 σ3 e2 s2 h2 => h2 _ _ _ _ _ _ s2 (q.mono ((g.b.trans e).trans e2)), fun cs2 H2 H3 σ3 e2 s2 h2 => ⟨H2, cs2, e.trans e2, s2, h2⟩, (q.mono (g.b.trans e)).ex⟩
      · rw [r.len] at hP
        exact hd cs' hP _ _ _ _ _ _ s' (q.mono (g.b.trans e)))
end
/-! a def that is called while its argument is handled, with loops in it -/
structure FnEH (P : Program) (w : World) (K : PySem.W.Frag) (mg : Str → Option Value) (base : Heap) (k : Nat) (f : Addr) (fd : FuncData) (ps : List Str) (sp : Addr × Obj → List V → Hp → VK → Prop) : Prop where
  len : ∀ p vs H Q, sp p vs H Q → vs.length = ps.length
  run : ∀ (A : Around) (outer : List Env) (s : Shared) (H : Hp) (args : Args) (us : List Value) (vs : List V) (Q : VK) (p : Addr × Obj), RoomH k A → PinOk outer H s p → Hot1 A p →
    Env0 P w K mg base A outer s H → BindsTo s fd args (ps.zip us) → Vals vs us → sp p vs H Q → codeAny (model P w) A (.call (.ref f) args) (CR CX0 outer P w H s Q E0) s
section
variable {P : Program} {w : World} {K : PySem.W.Frag} {mg : Str → Option Value} {base : Heap}
theorem fn_okEH {x qual : Str} {st : Stmt} {f : Addr} {fd : FuncData} {N ps : List Str} {k : Nat} {R : Addr × Obj → List D → (D → Prop) → Prop} (F : Fun K x qual st f fd) (S : FnScope N ps (defScope st)) (hl : ∀ p ds post, R p ds post → ds.length = ps.length) (hps : ps.length ≤ N.length)
    (hb : ∀ (X : Cx) (p : Addr × Obj) ds post, (∃ cdv A outer s H, X = cxH CX0 P w K mg base N qual (defScope st) f cdv A outer s H E0 p) → HotC X → RoomH k X.A → R p ds post → SXs X (ent N.length ds) (defBody st) { nx := fun _ => post .non, rt := post }) : FnEH P w K mg base (k + 1) f fd ps (spE K R) := by
  have len : ∀ p vs H Q, spE K R p vs H Q → vs.length = ps.length := fun p vs H Q h => by
    obtain ⟨ds, post, r, h, _⟩ := h
    rw [r.len]
    exact hl p ds post h
  obtain ⟨oc, od, kV, doc, pm, an, cdv, ct, osl, rfl, lk, hcd⟩ := F.ex
  refine ⟨len, fun A outer s H args us vs Q p hr hpin hot e0 bt r hsp => ?_⟩
  have nl : s.heap.NoLimit := e0.mod.nolimit.keeps fun b o e => (e0.bs b o e).1
  have kx : K.In s.heap := e0.mod.kin.keeps fun b o e => (e0.bs b o e).1
  refine codeAny_call_function hr.depth (kx _ _ lk) rfl S.co S.gen rfl (PySem.W.codeRec_of kx hcd) (bt _ _ _ _ (wpAny_newFunctionEnv_cells S.kind ?_ fun env he s1 ic => ?_))
  · rintro ⟨n, v⟩ hy
    rcases S.par n (List.of_mem_zip hy).1 with z | z
    · exact .inl z
    · exact .inr ⟨z, PySem.W.cellsFrom_some _ _ _ (.inl z)⟩
  · subst he
    refine ⟨nl.keeps ic.toInCall.keep, codeAny_func ?_⟩
    have J := inv_startH (CX := CX0) (P := P) (w := w) (mg := mg) (E := E0) S hpin e0 (len _ _ _ _ hsp) r ic
    obtain ⟨ds, post, rr, h, k1⟩ := id hsp
    refine wpAny_mono (hb _ p ds post ⟨_, _, _, _, _, rfl⟩ ⟨p, ⟨hot.1, hot.2⟩, List.mem_singleton.mpr rfl⟩ (hr.deeper _) h _ _ _ _ _ { nx := fun _ H' => Q .non H', rt := Q } (sr_start (Same.refl _) rr (by rw [hl p ds post h]; exact hps)) ⟨fun cs H0' H' σ' e s' z => k1 .non .non H' H0' z s'.gr .non, fun v d H0' H' g r z => k1 d v H' H0' z g r, fun _ _ _ _ _ _ z => z.elim, fun _ _ _ _ _ _ z => z.elim, takes_no⟩ [] s1 J) ?_ fun e s' he => he
    intro fl s' hs
    cases fl with
    | ret u => obtain ⟨v, σ', H', J', rv, q⟩ := hs; exact ⟨v, H', J'.os, J'.bare, J'.base, J'.hok, rv, q⟩
    | next => obtain ⟨σ', H', J', q⟩ := hs; exact ⟨.non, H', J'.os, J'.bare, J'.base, J'.hok, rfl, q⟩
    | brk => obtain ⟨_, _, _, z⟩ := hs; exact z.elim
    | cont => obtain ⟨_, _, _, z⟩ := hs; exact z.elim
end
theorem ex_callEH {X : Cx} {cs : List C} {e : Expr} {es : List Expr} {pos p : Pos} {d : D} {ds : List D} {k : Nat} {f : Addr} {fd : FuncData} {ps : List Str} {x : Str} {R : Addr × Obj → List D → (D → Prop) → Prop} {q : Addr × Obj} (Fn : FnEH X.prog X.w X.K X.mg X.base k f fd ps (spE X.K R)) (hr : RoomH k X.A) (hot : Hot1 X.A q) (hq : q ∈ X.pn) (hm : X.mg x = some (.ref f)) (hk : PySem.W.keepIn X.K (.ref f) = true) (hb : Binds X.K fd ps [])
    (ha : EA X cs (e :: es) ds) (h : R q ds (fun d' => d' = d)) (hd : d.scal = true := by rfl) (hg : Gl X x := by rfl) (hdb : (x == ("__debug__" : Str)) = false := by decide) (hs : Pl e := by intro _ _; rfl) (hpl : (backTo pos (starEach es X.env)).any (·.1) = false := by rfl) :
    EX X cs (.Call (.Name x p) (e :: es) [] pos) d := fun He Hb H0 H σ Q s k1 pins st I => by
  refine wpAny_Call_Name_kw (ld_glob I hg hm ?_ hdb)
  refine PySem.W.callWith_K (h₀ := X.base) I.ok.mod.kin hk (thn (ha _ _ _ _ _ (fun vs H' => ∃ H0', Grow H0 H H0' H' ∧ RepA X.K H0' vs ds) s (fun vs H' H0' g r => ⟨H0', g, r⟩) pos pins st I) ?_) (hs _ _) hpl
  rintro us s1 ⟨vs, H1, I1, r, H01, g1, r1⟩
  refine ⟨I1.kIn, ?_⟩
  have sp1 : spE X.K R q vs H1 Q := ⟨ds, _, r1.mono g1.i, h, fun d' v H2 H02 e g2 r2 => by
    subst e
    exact k1 v H2 H01 ⟨g1.b, g1.i.trans g2.h, g1.h.trans g2.h, g1.n⟩ (r2.scal hd)⟩
  have bt := hb s1 us I1.kIn (by rw [List.append_nil, ← r.length]; exact Fn.len _ _ _ _ sp1)
  rw [List.append_nil] at bt
  have P1 := I1.pin q (List.mem_append_left _ hq)
  have hpin : PinOk X.stack H1 s1 q := ⟨P1.1, P1.2.1, fun hm => (List.mem_cons.mp (I1.stkSub q.1 hm)).elim P1.2.2.1 P1.2.2.2.1, P1.2.2.2.2⟩
  refine wpAny_call (codeAny_mono (Fn.run X.A X.stack s1 H1 ⟨us, []⟩ us vs Q q hr hpin hot I1.env0 bt r sp1) ?_)
  intro rs s' hq'
  cases rs with
  | error e => exact False.elim hq'
  | ok fl =>
    cases fl with
    | ret u => exact I1.after hq'
    | next => exact False.elim hq'
    | brk => exact False.elim hq'
    | cont => exact False.elim hq'
end DL

end
section
set_option maxHeartbeats 2000000
namespace DL
open PySem PySem.Spec L2
theorem cut_to {xs : List V} {k : Nat} (h : k ≤ xs.length) : cutV xs none (some (k : Int)) = xs.take k := by
  unfold cutV
  have e1 : HT.sIx xs.length 0 none = 0 := rfl
  have e2 : HT.sIx xs.length xs.length (some (k : Int)) = k := by
    rw [HT.sIx_nat]
    omega
  rw [e1, e2]
  simp
theorem cut_from {xs : List V} {k : Nat} (h : k ≤ xs.length) : cutV xs (some (k : Int)) none = xs.drop k := by
  unfold cutV
  have e1 : HT.sIx xs.length 0 (some (k : Int)) = k := by
    rw [HT.sIx_nat]
    omega
  have e2 : HT.sIx xs.length xs.length none = xs.length := rfl
  rw [e1, e2]
  refine List.take_of_length_le ?_
  rw [List.length_drop]
  exact Nat.le_refl _
section
variable {X : Cx} {cs : List C} {e b : Expr} {ds : List D} {pos p2 p : Pos} {k : Nat} {i j : Int}
/-- xs[:b] -/
theorem eo_slTo (ha : EX X cs e (.lst ds)) (hb : EB X cs b (.int (k : Int))) (hk : k ≤ ds.length) : EO X cs (.Subscript e (.Slice none (some b) none p2) pos) (ds.take k) := fun He Hb H0 H σ Q s q =>
  wE_of (pe_slice sl_list pe_w po_none (po_some pe_w)) (ha _ _ _ _ _ _ s fun x H1 H01 g1 r1 => hb _ _ _ _ _ _ (s.grow g1) fun y H2 H02 g2 r2 => by
    cases r2
    cases r1 with
    | lst hl r =>
      refine ⟨_, rfl, _, _, rfl, SqL.of (g2.h _ _ (g1.i _ _ hl)), fun l hn => ?_⟩
      rw [cut_to (by rw [r.len]; exact hk)]
      have g := g1.trans g2
      exact q l _ _ _ (g.trans (Grow.own g.i hn)) (g.h.free hn) (g.i.free hn) upd_same ((r.take k).mono g2.b))
/-- xs[b:] -/
theorem eo_slFrom (ha : EX X cs e (.lst ds)) (hb : EB X cs b (.int (k : Int))) (hk : k ≤ ds.length) : EO X cs (.Subscript e (.Slice (some b) none none p2) pos) (ds.drop k) := fun He Hb H0 H σ Q s q =>
  wE_of (pe_slice sl_list pe_w (po_some pe_w) po_none) (ha _ _ _ _ _ _ s fun x H1 H01 g1 r1 => hb _ _ _ _ _ _ (s.grow g1) fun y H2 H02 g2 r2 => by
    cases r2
    cases r1 with
    | lst hl r =>
      refine ⟨_, rfl, _, _, rfl, SqL.of (g2.h _ _ (g1.i _ _ hl)), fun l hn => ?_⟩
      rw [cut_from (by rw [r.len]; exact hk)]
      have g := g1.trans g2
      exact q l _ _ _ (g.trans (Grow.own g.i hn)) (g.h.free hn) (g.i.free hn) upd_same ((r.drop k).mono g2.b))
theorem ex_min2 {a : Expr} (hcl : X.calm = true) (hm : X.mg "min" = none) (ha : EX X cs a (.int i)) (hb : EX X cs b (.int j)) (hg : Gl X "min" := by rfl) (hs : Pl a := by intro _ _; rfl) (hs2 : Pl b := by intro _ _; rfl) (hpl : (backTo pos (starEach [b] X.env)).any (·.1) = false := by rfl) : EX X cs (.Call (.Name "min" p) [a, b] [] pos) (.int (if j < i then j else i)) := fun He Hb H0 H σ Q s q =>
  wE_of (pe_callB (call_min2 hcl) hg hm (by decide +kernel) pa_w (by decide) (by decide) (hs _ _) hpl) (ea_cons ha (ea_cons hb ea_nil hs2) hs _ _ _ _ _ _ s fun vs H1 H01 g1 r1 => by
    cases r1 with
    | cons r1 r => cases r with
      | cons r2 r =>
        cases r
        cases r1
        cases r2
        exact ⟨_, _, rfl, q _ _ _ g1 (.int _)⟩)
theorem ex_max2 {a : Expr} (hcl : X.calm = true) (hm : X.mg "max" = none) (ha : EX X cs a (.int i)) (hb : EX X cs b (.int j)) (hg : Gl X "max" := by rfl) (hs : Pl a := by intro _ _; rfl) (hs2 : Pl b := by intro _ _; rfl) (hpl : (backTo pos (starEach [b] X.env)).any (·.1) = false := by rfl) : EX X cs (.Call (.Name "max" p) [a, b] [] pos) (.int (if j > i then j else i)) := fun He Hb H0 H σ Q s q =>
  wE_of (pe_callB (call_max2 hcl) hg hm (by decide +kernel) pa_w (by decide) (by decide) (hs _ _) hpl) (ea_cons ha (ea_cons hb ea_nil hs2) hs _ _ _ _ _ _ s fun vs H1 H01 g1 r1 => by
    cases r1 with
    | cons r1 r => cases r with
      | cons r2 r =>
        cases r
        cases r1
        cases r2
        exact ⟨_, _, rfl, q _ _ _ g1 (.int _)⟩)
end
end DL

end
section
set_option maxHeartbeats 2000000
namespace DL
open PySem PySem.Spec L2
/-! an object is made, or its making raises: what is raised is wished for at the slots -/
section
variable {X : Cx} {CX : CXT} {k : Nat} {f Cn : Addr} {fd : FuncData} {ps : List Str} {sp : Sp} {E : St → XK} {x : Str} {p pos : Pos} {e : Expr} {es : List Expr} {t : TA}
def tMkS (C : Addr) (sp : Sp) (E : St → XK) (t : TA) : TE := fun σ H Q => t σ H fun vs H1 => ∀ x dx, H1 x = none → H1 dx = none → dx ≠ x →
  sp (.ref x :: vs) (upd (upd H1 dx (.own x)) x (.ins C dx [])) (fun v H2 => v = .non ∧ Q (.ref x) H2) (E σ)
theorem pe_mkS (M : Mk X.K Cn f) (F : FnOk X.prog X.w X.K X.mg X.base CX k f fd ps sp) (hr : Room (k + 1) X.A) (hg : Gl X x) (hm : X.mg x = some (.ref Cn)) (hb : Binds X.K fd ps []) (hx : ∀ σ, PassesAt CX X σ (E σ))
    (ha : PA X (e :: es) t) (hdb : (x == ("__debug__" : Str)) = false := by decide) (he : starEach (e :: es) X.env = (false, eval e X.env) :: starEach es X.env := by rfl) (hpl : (backTo pos (starEach es X.env)).any (·.1) = false := by rfl) :
    PE X (.Call (.Name x p) (e :: es) [] pos) (tMkS Cn sp E t) := by
  refine ⟨fun pins s σ H Q I h => ?_⟩
  refine wpAny_Call_Name_kw (ld_glob I hg hm ?_ hdb)
  refine PySem.W.callWith_K (h₀ := X.base) I.ok.mod.kin M.kp (thn (ha.run pos pins s σ H _ I h) fun us s1 ⟨vs, H1, I1, r, q⟩ => ⟨I1.kIn, ?_⟩) he hpl
  have hq := q (s1.heap.objs.size + 1) s1.heap.objs.size (I1.hok.fresh (Nat.le_succ _)) (I1.hok.fresh (Nat.le_refl _)) (Nat.ne_of_lt (Nat.lt_succ_self _))
  have I2 := Inv.made (C := Cn) I1
  have r2 : Vals (V.ref (s1.heap.objs.size + 1) :: vs) (Value.ref (s1.heap.objs.size + 1) :: us) := .cons rfl r
  have hl : (Value.ref (s1.heap.objs.size + 1) :: us ++ []).length = ps.length := by
    have e := r2.length
    rw [F.len _ _ _ _ hq] at e
    rw [List.append_nil]
    exact e.symm
  have bt := hb _ (Value.ref (s1.heap.objs.size + 1) :: us) I2.kIn hl
  rw [List.append_nil] at bt
  refine wpAny_call (make_map (f := f) I1.kIn M.makes M.init (beq_iff_eq.mp M.fn) (codeAny_mono (F.run _ X.stack _ _ ⟨Value.ref (s1.heap.objs.size + 1) :: us, []⟩ (Value.ref (s1.heap.objs.size + 1) :: us) _ _ (E σ) (hr.make Cn us [])
    (I2.env0.make Cn us []) bt r2 hq) fun r s' hq' => ?_))
  cases r with
  | error e => exact hx σ pins _ _ e s' I2 hq'
  | ok fl =>
    cases fl with
    | ret u =>
      obtain ⟨v, H', I3, rv, ev, q3⟩ := I2.after hq'
      subst ev
      exact ⟨rv, ⟨V.ref (s1.heap.objs.size + 1), H', I3, rfl, q3⟩⟩
    | next => exact False.elim hq'
    | brk => exact False.elim hq'
    | cont => exact False.elim hq'
end
section
variable {X : Cx} {cs : List C} {k : Nat} {f Cn : Addr} {fd : FuncData} {ps : List Str} {x : Str} {p pos : Pos} {e : Expr} {es : List Expr} {ds : List D} {R : List D → (Out → Prop) → Prop} {post : Out → Prop}
theorem exr_make (M : Mk X.K Cn f) (F : FnOk X.prog X.w X.K X.mg X.base (L2N.CX X.prog X.w) k f fd ps (spMk X.K Cn R)) (hr : Room (k + 1) X.A) (hm : X.mg x = some (.ref Cn)) (hb : Binds X.K fd ps []) (ha : EAb X cs (e :: es) ds) (h : R ds post)
    (hg : Gl X x := by rfl) (hdb : (x == ("__debug__" : Str)) = false := by decide) (hs : Pl e := by intro _ _; rfl) (hpl : (backTo pos (starEach es X.env)).any (·.1) = false := by rfl) :
    EXR X cs (.Call (.Name x p) (e :: es) [] pos) (fun d => post (.ret d)) (fun Cl => post (.exc Cl)) := fun He Hb H0 H σ Q s tk q =>
  wE_of (pe_mkS M F hr hg hm hb (fun σ => L2N.passAt tk σ) pa_w hdb (hs _ _) hpl) (ha _ _ _ _ _ _ s fun vs H1 H01 g1 r1 x dx hx hdx hne => ⟨H1, x, dx, vs, ds, post, rfl, rfl, hx, hdx, hne, r1, h, fun d' H2 F e g2 r2 => by
    obtain ⟨g3, m⟩ := Grow.join g1.i g2
    exact ⟨rfl, q _ _ _ _ (g1.trans g3) (r2.mono m) e⟩, fun Cl H' e hsm => ⟨Cl, cs, H01, rfl, rfl, g1.b, sr_call s g1 hsm, rfl, e⟩⟩)
end
end DL

end
section
set_option maxHeartbeats 2000000
namespace DL
open PySem PySem.Spec L2 PyProof.Rows
/-- the greatest, or what is given when there is none -/
def maxI (d : Int) : List Int → Int
  | [] => d
  | n :: r => r.foldl max n
def minI (d : Int) : List Int → Int
  | [] => d
  | n :: r => r.foldl min n
theorem foldl_max : ∀ (l : List Int) (n : Int), n ≤ l.foldl max n ∧ (∀ a ∈ l, a ≤ l.foldl max n) ∧ (l.foldl max n = n ∨ l.foldl max n ∈ l)
  | [], n => ⟨Int.le_refl _, (fun _ h => nomatch h), .inl rfl⟩
  | k :: r, n => by
    obtain ⟨h1, h2, h3⟩ := foldl_max r (max n k)
    rw [List.foldl_cons]
    refine ⟨by omega, fun a ha => ?_, ?_⟩
    · rcases List.mem_cons.mp ha with rfl | ha
      · omega
      · exact h2 a ha
    · rcases h3 with h3 | h3
      · rcases Int.le_total n k with h | h
        · exact .inr (by rw [h3, show max n k = k by omega]; exact List.mem_cons_self)
        · exact .inl (by omega)
      · exact .inr (List.mem_cons_of_mem _ h3)
theorem foldl_min : ∀ (l : List Int) (n : Int), l.foldl min n ≤ n ∧ (∀ a ∈ l, l.foldl min n ≤ a) ∧ (l.foldl min n = n ∨ l.foldl min n ∈ l)
  | [], n => ⟨Int.le_refl _, (fun _ h => nomatch h), .inl rfl⟩
  | k :: r, n => by
    obtain ⟨h1, h2, h3⟩ := foldl_min r (min n k)
    rw [List.foldl_cons]
    refine ⟨by omega, fun a ha => ?_, ?_⟩
    · rcases List.mem_cons.mp ha with rfl | ha
      · omega
      · exact h2 a ha
    · rcases h3 with h3 | h3
      · rcases Int.le_total n k with h | h
        · exact .inl (by omega)
        · exact .inr (by rw [h3, show min n k = k by omega]; exact List.mem_cons_self)
      · exact .inr (List.mem_cons_of_mem _ h3)
theorem maxI_le {d : Int} {ns : List Int} : ∀ a ∈ ns, a ≤ maxI d ns := by
  cases ns with
  | nil => intro a h; cases h
  | cons n r =>
    obtain ⟨h1, h2, h3⟩ := foldl_max r n
    intro a h
    rcases List.mem_cons.mp h with rfl | h
    · exact h1
    · exact h2 a h
theorem maxI_mem {d : Int} {ns : List Int} (h : ns ≠ []) : maxI d ns ∈ ns := by
  cases ns with
  | nil => exact absurd rfl h
  | cons n r =>
    obtain ⟨h1, h2, h3⟩ := foldl_max r n
    rcases h3 with h3 | h3
    · exact List.mem_cons.mpr (.inl h3)
    · exact List.mem_cons_of_mem _ h3
theorem minI_le {d : Int} {ns : List Int} : ∀ a ∈ ns, minI d ns ≤ a := by
  cases ns with
  | nil => intro a h; cases h
  | cons n r =>
    obtain ⟨h1, h2, h3⟩ := foldl_min r n
    intro a h
    rcases List.mem_cons.mp h with rfl | h
    · exact h1
    · exact h2 a h
theorem minI_mem {d : Int} {ns : List Int} (h : ns ≠ []) : minI d ns ∈ ns := by
  cases ns with
  | nil => exact absurd rfl h
  | cons n r =>
    obtain ⟨h1, h2, h3⟩ := foldl_min r n
    rcases h3 with h3 | h3
    · exact List.mem_cons.mpr (.inl h3)
    · exact List.mem_cons_of_mem _ h3
theorem maxI_eq {d M : Int} {ns : List Int} (h : M ∈ ns) (hl : ∀ a ∈ ns, a ≤ M) : maxI d ns = M := Int.le_antisymm (hl _ (maxI_mem (List.ne_nil_of_mem h))) (maxI_le _ h)
theorem minI_eq {d M : Int} {ns : List Int} (h : M ∈ ns) (hl : ∀ a ∈ ns, M ≤ a) : minI d ns = M := Int.le_antisymm (minI_le _ h) (hl _ (minI_mem (List.ne_nil_of_mem h)))
/-- max(l, default=d) of a list of ints -/
theorem maxD_raw {prog : Program} {w : World} {A : Around} {s : Shared} {l : Addr} {its : List Value} {ns : List Int} {dv : Value} {Q : Value → Shared → Prop} {E : Value → Shared → Prop} (hh : A.handled = none) (hl : s.heap.IsList l its.toArray) (hi : IntsAre its ns)
    (h0 : ns = [] → ∀ h' tk, (∀ b o, s.heap.get? b = some o → h'.get? b = some o) → Q dv { s with heap := h', toks := tk })
    (h : ∀ h' tk M t', (∀ b o, s.heap.get? b = some o → h'.get? b = some o) → M ∈ ns → (∀ a, a ∈ ns → a ≤ M) → Q (.int M t') { s with heap := h', toks := tk }) : wpAny (model prog w) A (call (.builtin "max") [.ref l] [(Str.ofString "default", dv)]) Q E s := by
  obtain ⟨xs, e⟩ := hi.allInts.items
  have hn : numsOf (intItems xs).toList = ns := by rw [← e]; exact hi.numsOf
  rw [nums_intItems] at hn
  subst hn
  rw [e] at hl
  have hs2 : (intItems xs).size = xs.size := by simp [intItems]
  refine call_max_walkD (PySem.W.iter_listW (A := A.in1) hh hl fun s₂ e2 W st hfp hw hk => ?_)
  refine ⟨_, _, _, _, _, _, _, s.heap, (fun i j => decide (numAt xs i > numAt xs j)), rfl, W, st, hfp, hw, hk, fun hz s' m => ?_, fun hp => ⟨fun i j vi vj s' Q' E' _ q1 q2 q3 => CmpOf.ints_gt (numAt xs) (fun _ _ => intItems_at) i j vi vj s' Q' E' q1 q2 q3, fun v s' hP m => ?_⟩⟩
  · obtain ⟨h', tk, rfl, hk'⟩ := PySem.W.moved_old e2 rfl m
    refine h0 ?_ h' tk hk'
    have : xs.toList = [] := List.eq_nil_of_length_eq_zero (by rw [Array.length_toList]; omega)
    rw [this]
    rfl
  · obtain ⟨h', tk, rfl, hk'⟩ := PySem.W.moved_old e2 rfl m
    rw [hs2] at hP hp
    obtain ⟨t, rfl⟩ := intItems_at hP
    obtain ⟨h1, h2⟩ := argBest_gt (numAt xs) (xs.size - 1)
    refine h h' tk _ t hk' ?_ fun a ha => ?_
    · rw [numAt_eq]; exact PySem.getD_mem (by rw [List.length_map, Array.length_toList]; omega)
    · obtain ⟨j, hj, rfl⟩ := PySem.mem_getD ha
      rw [List.length_map, Array.length_toList] at hj
      rw [← numAt_eq]; exact h2 j (by omega)
section
variable {X : Cx} {cs : List C} {a b e : Expr} {es : List Expr} {pos p pos' px kp : Pos} {d : D} {ds : List D} {F : DE} {i j n : Int} {ns : List Int} {x : Str}
theorem cr_maxD (hc : X.calm = true) : CallRK X (.builtin "max") ["default"] (fun vs zs H Q => ∃ (a : Addr) (ns : List Int) (j : Int), vs = [.ref a] ∧ zs = [.int j] ∧ SqL X.K H a (ns.map V.int) ∧ Q (.int (maxI j ns)) H) := by
  intro pins s σ H vs zs us ws Q I r r2 h
  obtain ⟨a, ns, j, rfl, rfl, hs, q⟩ := h
  obtain ⟨its, rv, hl, _⟩ := I.list hs
  rw [Vals.ref1 r]
  cases r2 with
  | cons rj r2 =>
    cases r2
    obtain ⟨t, rfl⟩ := rj
    refine maxD_raw (I.ok.hd hc) hl.isList rv.ints (fun e h' tk hk => ?_) (fun h' tk M t' hk h1 h2 => ?_)
    · subst e; exact ⟨.int _, H, I.kept hk, ⟨_, rfl⟩, q⟩
    · rw [maxI_eq h1 h2] at q; exact ⟨.int _, H, I.kept hk, ⟨_, rfl⟩, q⟩
theorem ex_maxD {nm : Option Str} (hcl : X.calm = true) (hm : X.mg "max" = none) (ha : EB X cs a (.lst (ns.map D.int))) (hb : EB X cs b (.int j)) (hg : Gl X "max" := by rfl)
    (he : backTo pos (starEach [a] X.env) = (false, eval a X.env) :: backTo pos (starEach [] X.env) := by rfl) (hpl : (backTo pos (starEach [a] X.env)).any (·.1) = false := by rfl)
    (hst : starEach [a] X.env = (false, eval a X.env) :: starEach [] X.env := by rfl)
    (hall : (backToKw pos (keywordEach [⟨nm, b, kp⟩] X.env)).all (·.1.isSome) = true := by rfl) (hnone : (backToKw pos (keywordEach [⟨nm, b, kp⟩] X.env)).any (·.1.isNone) = false := by rfl) (hks : (backToKw pos (keywordEach [⟨nm, b, kp⟩] X.env)).filterMap (·.1) = [("default" : Str)] := by rfl)
    (hpk : ∀ tb, PE X b tb → PK X [⟨nm, b, kp⟩] (tCons tb tNil) := by intro _ h; exact pk_cons h pk_nil) :
    EX X cs (.Call (.Name "max" p) [a] [⟨nm, b, kp⟩] pos) (.int (maxI j ns)) := fun He Hb H0 H σ Q s q =>
  wE_of (pe_callBK (cr_maxD hcl) hg hm (by decide +kernel) (pa_cons pe_w pa_nil hst) (hpk _ pe_w) (by decide) (by decide) he hpl hall hnone hks) (ha _ _ _ _ _ _ s fun v H1 H01 g1 r1 => hb _ _ _ _ _ _ (s.grow g1) fun y H2 H02 g2 r2 => by
    cases r2
    cases r1 with
    | lst hl r =>
      rw [RepA.ints_of r] at hl
      exact ⟨_, ns, j, rfl, rfl, SqL.of (g2.h _ _ hl), q _ _ _ (g1.trans g2) (.int _)⟩)
/-- min of a list that isn't empty -/
theorem ex_minL (hcl : X.calm = true) (hm : X.mg "min" = none) (ha : EB X cs a (.lst (ns.map D.int))) (hne : ns ≠ []) (hg : Gl X "min" := by rfl) (hs : Pl a := by intro _ _; rfl) : EX X cs (.Call (.Name "min" p) [a] [] pos) (.int (minI 0 ns)) := fun He Hb H0 H σ Q s q =>
  wE_of (pe_callB (cr_min hcl) hg hm (by decide +kernel) (pa_cons pe_w pa_nil (hs _ _)) (by decide) (by decide) (hs _ _) rfl) (ha _ _ _ _ _ _ s fun v H1 H01 g1 r1 => by
    cases r1 with
    | lst hl r =>
      rw [RepA.ints_of r] at hl
      refine ⟨_, ns, rfl, SqL.of hl, List.length_pos_iff.mpr hne, fun m hm hle => ?_⟩
      rw [← minI_eq hm hle]
      exact q _ _ _ g1 (.int _))
/-- [x] * n -/
theorem rep_one {K : PySem.W.Frag} {H : Hp} {v : V} {d : D} (r : Rep K H v d) : ∀ n : Nat, RepA K H (List.replicate n [v]).flatten (List.replicate n d)
  | 0 => .nil
  | n + 1 => by
    rw [List.replicate_succ, List.replicate_succ, List.flatten_cons]
    exact .cons r (rep_one r n)
theorem eo_times (ha : EX X cs a (.lst [d])) (hb : EB X cs b (.int n)) (hn : -1000000 ≤ n ∧ n ≤ 1000000) : EO X cs (.BinOp a .Mult b pos) (List.replicate n.toNat d) := fun He Hb H0 H σ Q s q =>
  wE_of (pe_op op_rep pe_w pe_w) (ha _ _ _ _ _ _ s fun x H1 H01 g1 r1 => hb _ _ _ _ _ _ (s.grow g1) fun y H2 H02 g2 r2 => by
    cases r2
    cases r1 with
    | lst h1 r1 =>
      cases r1 with
      | cons rd rr =>
        cases rr
        refine ⟨_, _, _, rfl, rfl, g2.h _ _ (g1.i _ _ h1), by omega, by omega, ?_, fun l hl => ?_⟩
        · refine Nat.le_trans (show 1 * n.toNat ≤ 1000000 by omega) (by decide)
        · have g := g1.trans g2
          exact q l _ _ _ (g.trans (Grow.own g.i hl)) (g.h.free hl) (g.i.free hl) upd_same (rep_one (rd.mono g2.b) _))
/-- xs[i] = e of an own list -/
theorem rep_set {K : PySem.W.Frag} {H : Hp} {v : V} {d : D} (r : Rep K H v d) : ∀ {vs : List V} {ds : List D} (k : Nat), RepA K H vs ds → RepA K H (vs.set k v) (ds.set k d)
  | _, _, _, .nil => .nil
  | _, _, 0, .cons _ t => .cons r t
  | _, _, k + 1, .cons h t => .cons h (rep_set r k t)
theorem sx_setIx (k : Nat) (hc : cs[k]? = some (.ol ds)) (h : EX X cs e d) (hb : EB X cs b (.int i)) (hi : ixN ds.length i = some m) (hk : F.nx (cs.set k (.ol (ds.set m d)))) (hN : X.N[k]? = some x := by rfl) (hv : Vis X.env.scope x := by first | exact Or.inl rfl | exact Or.inr (Or.inl rfl) | exact Or.inr (Or.inr rfl))
    (hd : (x == ("__debug__" : Str)) = false := by decide) (hcd : (x == ("__classdict__" : Str)) = false := by decide)
    (hs : swapsWithSole [.Subscript (.Name x px) b pos'] e pos.line X.env = pure false := by rfl) (hw : swappedStores [.Subscript (.Name x px) b pos'] e X.env = pure none := by rfl)
    (h1 : (assignEach [.Subscript (.Name x px) b pos'] X.env).map (·.2) = [assign (.Subscript (.Name x px) b pos') X.env] := by rfl)
    (hg : ∀ to ti, PE X (.Name x px) to → PE X b ti → PG X (.Subscript (.Name x px) b pos') (gSub to ti rSetL) := by intro _ _ h1 h2; exact pg_sub h1 h2 set_list) :
    SX X cs (.Assign [.Subscript (.Name x px) b pos'] e pos) F := fun He Hb H0 H σ E s q => by
  obtain ⟨l, vs, e1, h0, hl1, r⟩ := s.sl k _ hc
  refine wS_of (ps_asg pe_w (hg _ _ (pe_var hN hv hd hcd) pe_w) hs hw h1) ?_
  refine h _ _ _ _ _ _ s fun v H1 H01 g1 rv => ⟨_, e1, ?_⟩
  refine hb _ _ _ _ _ _ (s.grow g1) fun y H2 H02 g2 ry => ?_
  cases ry
  have g := g1.trans g2
  have h01 := not_tup g h0 hl1 (fun xs z => by cases z)
  refine ⟨l, vs, i, m, rfl, rfl, g.h _ _ hl1, by rw [r.len]; exact hi, ?_⟩
  exact q.nx _ _ _ _ g.b ((s.grow g).put (c0 := .ol (ds.set m d)) hc rfl e1 h01 ⟨l, _, rfl, h01, upd_same, rep_set (rv.mono g2.b) m (r.mono g.b)⟩) hk
/-- for x in range(a, b, -1) -/
theorem sx_forRD (k : Nat) {l m : Int} {c1 : Expr} {body : List Stmt} (P : Nat → List C → Prop) (hcl : X.calm = true) (hN : X.N.Nodup) (hp : PassesOwn (model X.prog X.w) X.A X.env X.xe) (hm : X.mg "range" = none) (ha : EB X cs a (.int l)) (hb : EB X cs b (.int m)) (hcc : EB X cs c1 (.int (-1))) (hbd : -1000000 ≤ l ∧ l ≤ 1000000 ∧ -1000000 ≤ m ∧ m ≤ 1000000) (h0 : P 0 cs)
    (hs : ∀ (j : Nat) cs', j < (l - m).toNat → P j cs' → SXs X (cs'.set k (.sh (.int (l - j)))) body { F with nx := P (j + 1), ct := P (j + 1), bk := F.nx }) (hd : ∀ cs', P (l - m).toNat cs' → F.nx cs')
    (hg : Gl X "range" := by rfl) (hpl : Pl a := by intro _ _; rfl) (hpl2 : Pl b := by intro _ _; rfl) (hpl3 : Pl c1 := by intro _ _; rfl) (hi : X.N[k]? = some x := by rfl) (hx : Loc X.env.scope x := by first | exact Or.inl rfl | exact Or.inr rfl) (hf : X.fn x = true ∨ X.env.scope.names.lookup x = some .local := by first | exact .inl rfl | exact .inr rfl)
    (hst : starEach [a, b, c1] X.env = (false, eval a X.env) :: starEach [b, c1] X.env := by rfl) (hst2 : (backTo pos' (starEach [b, c1] X.env)).any (·.1) = false := by rfl)
    (hfo : ∀ x, foldedSetIterable (.Call (.Name "range" p) [a, b, c1] [] pos') X.env x = pure x := by intro _; rfl) : SX X cs (.For (.Name x px) (.Call (.Name "range" p) [a, b, c1] [] pos') body [] pos) F := fun He Hb H0 H σ E s q =>
  wS_of (ps_for hp hcl (pi_range3 hg hm pa_w hst hst2) (pg_name hN hi hx hf) pss_w hfo) (eab_cons ha (eab_cons hb (eab_cons hcc eab_nil hpl3) hpl2) hpl _ _ _ _ _ _ s fun vs H1 H01 g r => by
    cases r with
    | cons r1 r =>
      cases r with
      | cons r2 r =>
        cases r with
        | cons r3 r =>
          cases r
          cases r1
          cases r2
          cases r3
          refine ⟨l, m, -1, (l - m).toNat, rfl, RgC.neg (by omega) (by omega) (by omega) (by omega), for_rangeC (lo := l) (c := -1) (n := (l - m).toNat) (fun j σ' H' => ∃ H0' cs', Same H01 H0' ∧ SR X.K He Hb H0' H' σ' cs' ∧ P j cs') ⟨H01, cs, Same.refl _, s.grow g, h0⟩
            (fun j σ' H' hj ⟨H0', cs', e, s', hP⟩ => ?_) (fun σ' H' ⟨H0', cs', e, s', hP⟩ => q.nx _ _ _ _ (g.b.trans e) s' (hd cs' hP))⟩
          refine hs j cs' hj hP _ _ _ _ _ _ (s'.set (by rw [show l + (j : Int) * -1 = l - j by omega]; exact .int _)) ⟨fun cs2 H2 H3 σ3 e2 s2 h2 => ⟨H2, cs2, e.trans e2, s2, h2⟩, q.rt, fun cs2 H2 H3 σ3 e2 s2 h2 => q.nx _ _ _ _ ((g.b.trans e).trans e2) s2 h2, fun cs2 H2 H3 σ3 e2 s2 h2 => ⟨H2, cs2, e.trans e2, s2, h2⟩, (q.mono (g.b.trans e)).ex⟩)
end
end DL

end
section
set_option maxHeartbeats 2000000
namespace DL
/-! walks along arrows, and the heights that the rounds of relaxing find -/
def relax1 (f : List Int) (a : Int × Int) : List Int := f.set a.2.toNat (if f.getD a.1.toNat 0 + 1 > f.getD a.2.toNat 0 then f.getD a.1.toNat 0 + 1 else f.getD a.2.toNat 0)
def hgtR (n : Nat) (as : List (Int × Int)) : Nat → List Int
  | 0 => List.replicate n 1
  | r + 1 => as.foldl relax1 (hgtR n as r)
def hgt (n : Nat) (as : List (Int × Int)) : List Int := hgtR n as n
def InN (n : Nat) (as : List (Int × Int)) : Prop := ∀ a ∈ as, 0 ≤ a.1 ∧ a.1 < (n : Int) ∧ 0 ≤ a.2 ∧ a.2 < (n : Int)
/-- a walk of k arrows ends at v -/
def Wk (n : Nat) (as : List (Int × Int)) : Nat → Int → Prop
  | 0, v => 0 ≤ v ∧ v < (n : Int)
  | k + 1, v => ∃ u, (u, v) ∈ as ∧ Wk n as k u
def Long (n : Nat) (as : List (Int × Int)) : Prop := ∃ v, Wk n as n v
section
variable {n : Nat} {as : List (Int × Int)}
theorem wk_in (h : InN n as) : ∀ {k : Nat} {v : Int}, Wk n as k v → 0 ≤ v ∧ v < (n : Int)
  | 0, _, w => w
  | _ + 1, _, ⟨_, hu, _⟩ => (h _ hu).2.2
theorem wk_down (h : InN n as) : ∀ {k : Nat} {v : Int}, Wk n as (k + 1) v → Wk n as k v
  | 0, _, w => wk_in h w
  | _ + 1, _, ⟨u, hu, w⟩ => ⟨u, hu, wk_down h w⟩
theorem wk_le (h : InN n as) {k j : Nat} {v : Int} (hj : j ≤ k) (w : Wk n as k v) : Wk n as j v := by
  induction k with
  | zero => obtain rfl : j = 0 := by omega
            exact w
  | succ k ih =>
    by_cases e : j = k + 1
    · subst e; exact w
    · exact ih (by omega) (wk_down h w)
theorem relax1_len (f : List Int) (a : Int × Int) : (relax1 f a).length = f.length := List.length_set
theorem relax1_get {f : List Int} {a : Int × Int} {v : Nat} (hv : v < f.length) : (relax1 f a).getD v 0 = if v = a.2.toNat then max (f.getD v 0) (f.getD a.1.toNat 0 + 1) else f.getD v 0 := by
  unfold relax1
  rw [List.getD_eq_getElem?_getD, List.getElem?_set]
  by_cases e : a.2.toNat = v
  · subst e
    rw [if_pos rfl, if_pos hv, if_pos rfl]
    have : ∀ x y : Int, (if y > x then y else x) = max x y := fun x y => by split <;> omega
    rw [this]
    rfl
  · rw [if_neg e, if_neg (fun z => e z.symm), List.getD_eq_getElem?_getD]
structure Hg (n : Nat) (as : List (Int × Int)) (r : Nat) (f : List Int) : Prop where
  len : f.length = n
  up : ∀ v : Nat, v < n → ∃ k : Nat, f.getD v 0 = (k : Int) + 1 ∧ Wk n as k v
  lo : ∀ v : Nat, v < n → ∀ k : Nat, k ≤ r → Wk n as k v → (k : Int) + 1 ≤ f.getD v 0
theorem hg_round (h : InN n as) {r : Nat} {f : List Int} (g : Hg n as r f) : ∀ (bs cs : List (Int × Int)), cs ++ bs = as → ∀ f', Hg n as r f' → (∀ u v : Int, (u, v) ∈ cs → ∀ k : Nat, k ≤ r → Wk n as k u → (k : Int) + 2 ≤ f'.getD v.toNat 0) → Hg n as (r + 1) (bs.foldl relax1 f')
  | [], cs, e, f', g', hc => by
    rw [List.append_nil] at e
    subst e
    refine ⟨g'.len, g'.up, fun v hv k hk w => ?_⟩
    cases k with
    | zero => exact g'.lo v hv 0 (Nat.zero_le _) w
    | succ k =>
      obtain ⟨u, hu, w⟩ := w
      have := hc u v hu k (by omega) w
      rw [Int.toNat_natCast] at this
      show (((k + 1 : Nat) : Int)) + 1 ≤ f'.getD v 0
      omega
  | a :: bs, cs, e, f', g', hc => by
    rw [List.foldl_cons]
    have ha := h a (by rw [← e]; simp)
    have hw : ∀ v : Nat, v < n → f'.getD v 0 ≤ (relax1 f' a).getD v 0 := fun v hv => by
      rw [relax1_get (by rw [g'.len]; exact hv)]
      split <;> omega
    refine hg_round h g bs (cs ++ [a]) (by rw [← e]; simp) _ ⟨by rw [relax1_len, g'.len], fun v hv => ?_, fun v hv k hk w => Int.le_trans (g'.lo v hv k hk w) (hw v hv)⟩ (fun u v hm k hk w => ?_)
    · rw [relax1_get (by rw [g'.len]; exact hv)]
      obtain ⟨k, e1, w1⟩ := g'.up v hv
      by_cases ev : v = a.2.toNat
      · rw [if_pos ev]
        obtain ⟨k2, e2, w2⟩ := g'.up a.1.toNat (by omega)
        rcases Int.le_total (f'.getD a.1.toNat 0 + 1) (f'.getD v 0) with q | q
        · exact ⟨k, by omega, w1⟩
        · refine ⟨k2 + 1, by omega, a.1, ?_, by rwa [Int.toNat_of_nonneg ha.1] at w2⟩
          have : (v : Int) = a.2 := by omega
          rw [this, ← e]
          simp
      · rw [if_neg ev]
        exact ⟨k, e1, w1⟩
    · rcases List.mem_append.mp hm with hm | hm
      · have hv := h (u, v) (by rw [← e]; exact List.mem_append_left _ hm)
        exact Int.le_trans (hc u v hm k hk w) (hw _ (by omega))
      · obtain rfl := List.mem_singleton.mp hm
        rw [relax1_get (by rw [g'.len]; omega), if_pos rfl]
        have := g'.lo u.toNat (by omega) k hk (by rw [Int.toNat_of_nonneg ha.1]; exact w)
        show (k : Int) + 2 ≤ max _ (f'.getD u.toNat 0 + 1)
        omega
theorem hgtR_hg (h : InN n as) : ∀ r, Hg n as r (hgtR n as r)
  | 0 => by
    have e : ∀ v : Nat, v < n → (hgtR n as 0).getD v 0 = 1 := fun v hv => by
      unfold hgtR
      rw [List.getD_eq_getElem?_getD, List.getElem?_replicate, if_pos hv]
      rfl
    refine ⟨List.length_replicate, fun v hv => ⟨0, e v hv, by omega, by omega⟩, fun v hv k hk w => ?_⟩
    obtain rfl : k = 0 := by omega
    rw [e v hv]
    decide
  | r + 1 => hg_round h (hgtR_hg h r) as [] (List.nil_append _) _ (hgtR_hg h r) (fun _ _ hm => nomatch hm)
theorem hgt_hg (h : InN n as) : Hg n as n (hgt n as) := hgtR_hg h n
theorem hgt_len (h : InN n as) : (hgt n as).length = n := (hgt_hg h).len
theorem getD_mem' {l : List Int} {v : Nat} (h : v < l.length) : l.getD v 0 ∈ l := by
  rw [List.getD_eq_getElem?_getD, List.getElem?_eq_getElem h]
  exact List.getElem_mem h
theorem hgt_long (h : InN n as) : maxI 0 (hgt n as) > (n : Int) ↔ Long n as := by
  have g := hgt_hg h
  constructor
  · intro hm
    have hne : hgt n as ≠ [] := fun e => by
      rw [e] at hm
      have : (0 : Int) > n := hm
      omega
    obtain ⟨v, hv, ev⟩ := List.mem_iff_getElem.mp (maxI_mem (d := 0) hne)
    have e : (hgt n as).getD v 0 = maxI 0 (hgt n as) := by
      rw [List.getD_eq_getElem?_getD, List.getElem?_eq_getElem hv]
      exact ev
    obtain ⟨k, e1, w⟩ := g.up v (by rw [← g.len]; exact hv)
    exact ⟨v, wk_le h (by omega) w⟩
  · rintro ⟨v, w⟩
    have hv := wk_in h w
    have := g.lo v.toNat (by omega) n (Nat.le_refl _) (by rw [Int.toNat_of_nonneg hv.1]; exact w)
    have h2 := maxI_le (d := 0) _ (getD_mem' (l := hgt n as) (v := v.toNat) (by rw [g.len]; omega))
    omega
/-- without a round the height is the longest walk -/
theorem hgt_top (h : InN n as) (hl : ¬ Long n as) {v : Nat} (hv : v < n) {k : Nat} (w : Wk n as k v) : (k : Int) + 1 ≤ (hgt n as).getD v 0 := by
  refine (hgt_hg h).lo v hv k ?_ w
  rcases Nat.le_total k n with q | q
  · exact q
  · exact absurd ⟨_, wk_le h q w⟩ hl
theorem hgt_step (h : InN n as) (hl : ¬ Long n as) {v : Int} (hv : 0 ≤ v ∧ v < (n : Int)) {k : Nat} (e : (hgt n as).getD v.toNat 0 = (k : Int) + 2) : ∃ u, (u, v) ∈ as ∧ (hgt n as).getD u.toNat 0 = (k : Int) + 1 := by
  obtain ⟨k1, e1, w⟩ := (hgt_hg h).up v.toNat (by omega)
  obtain rfl : k1 = k + 1 := by omega
  rw [Int.toNat_of_nonneg hv.1] at w
  obtain ⟨u, hu, w⟩ := w
  have hui := h _ hu
  refine ⟨u, hu, ?_⟩
  have h1 := hgt_top h hl (v := u.toNat) (by omega) (k := k) (by rw [Int.toNat_of_nonneg hui.1]; exact w)
  obtain ⟨k2, e2, w2⟩ := (hgt_hg h).up u.toNat (by omega)
  rw [Int.toNat_of_nonneg hui.1] at w2
  have h2 := hgt_top h hl (v := v.toNat) (by omega) (k := k2 + 1) (by rw [Int.toNat_of_nonneg hv.1]; exact ⟨u, hu, w2⟩)
  omega
theorem hgt_pos (h : InN n as) {v : Nat} (hv : v < n) : 1 ≤ (hgt n as).getD v 0 := by
  obtain ⟨k, e, _⟩ := (hgt_hg h).up v hv
  omega
/-- an arrow leads higher -/
theorem hgt_arrow (h : InN n as) (hl : ¬ Long n as) {u v : Int} (hm : (u, v) ∈ as) : (hgt n as).getD u.toNat 0 < (hgt n as).getD v.toNat 0 := by
  have hi := h _ hm
  obtain ⟨k2, e2, w2⟩ := (hgt_hg h).up u.toNat (by omega)
  rw [Int.toNat_of_nonneg hi.1] at w2
  have h2 := hgt_top h hl (v := v.toNat) (by omega) (k := k2 + 1) (by rw [Int.toNat_of_nonneg hi.2.2.1]; exact ⟨u, hm, w2⟩)
  omega
/-! turned round -/
theorem inN_sw (h : InN n as) : InN n (as.map sw) := fun a ha => by
  obtain ⟨b, hb, rfl⟩ := List.mem_map.mp ha
  have := h b hb
  exact ⟨this.2.2.1, this.2.2.2, this.1, this.2.1⟩
theorem sw_mem {u v : Int} : (u, v) ∈ as.map sw ↔ (v, u) ∈ as := by
  rw [List.mem_map]
  constructor
  · rintro ⟨⟨a, b⟩, hm, e⟩
    cases e
    exact hm
  · intro hm
    exact ⟨(v, u), hm, rfl⟩
theorem wk_join : ∀ (i j : Nat) (v : Int), Wk n as i v → Wk n (as.map sw) j v → ∃ u, Wk n (as.map sw) (i + j) u
  | 0, j, v, _, w => ⟨v, by rwa [Nat.zero_add]⟩
  | i + 1, j, v, ⟨u, hu, w1⟩, w2 => by
    have := wk_join i (j + 1) u w1 ⟨v, sw_mem.mpr hu, w2⟩
    rwa [show i + 1 + j = i + (j + 1) by omega]
theorem long_sw1 (h : InN n as) (hl : Long n as) : Long n (as.map sw) := by
  obtain ⟨v, w⟩ := hl
  exact wk_join n 0 v w (wk_in h w)
theorem long_sw (h : InN n as) : Long n (as.map sw) ↔ Long n as := by
  refine ⟨fun hl => ?_, long_sw1 h⟩
  have := long_sw1 (inN_sw h) hl
  rw [List.map_map] at this
  rwa [show (sw ∘ sw : Int × Int → Int × Int) = id from rfl, List.map_id] at this
/-! what is left after rounds of taking away what nothing leads to -/
def leftR (n : Nat) (as : List (Int × Int)) : Nat → List Int
  | 0 => (List.range n).map fun i : Nat => (i : Int)
  | r + 1 => (leftR n as r).filter fun v => as.any fun a => decide (a.2 = v) && decide (a.1 ∈ leftR n as r)
theorem leftR_mem (h : InN n as) : ∀ (r : Nat) (v : Int), v ∈ leftR n as r ↔ Wk n as r v
  | 0, v => by
    unfold leftR
    rw [List.mem_map]
    constructor
    · rintro ⟨i, hi, rfl⟩
      have := List.mem_range.mp hi
      exact ⟨by omega, by omega⟩
    · rintro ⟨h1, h2⟩
      exact ⟨v.toNat, List.mem_range.mpr (by omega), by omega⟩
  | r + 1, v => by
    rw [leftR, List.mem_filter, leftR_mem h r v, List.any_eq_true]
    constructor
    · rintro ⟨_, a, ha, hb⟩
      rw [Bool.and_eq_true, decide_eq_true_iff, decide_eq_true_iff, leftR_mem h r] at hb
      obtain ⟨rfl, w⟩ := hb
      exact ⟨a.1, ha, w⟩
    · rintro ⟨u, hu, w⟩
      refine ⟨wk_down h ⟨u, hu, w⟩, (u, v), hu, ?_⟩
      rw [Bool.and_eq_true, decide_eq_true_iff, decide_eq_true_iff, leftR_mem h r]
      exact ⟨rfl, w⟩
theorem left_long (h : InN n as) : leftR n as n ≠ [] ↔ Long n as := by
  constructor
  · intro hne
    obtain ⟨v, r, e⟩ := List.exists_cons_of_ne_nil hne
    exact ⟨v, (leftR_mem h n v).mp (by rw [e]; simp)⟩
  · rintro ⟨v, w⟩ e
    have := (leftR_mem h n v).mpr w
    rw [e] at this
    cases this
end
end DL

end
section
set_option maxHeartbeats 2000000
namespace DL
open PySem PySem.Spec L2
/-! comprehensions whose target is taken apart -/
theorem wipeU {σ : St} {i k : Nat} (hne : i ≠ k) {x y : Option V} : wipe (((wipe σ [i, k]).set i x).set k y) [i, k] = wipe σ [i, k] := by
  show ((((((σ.set k none).set i none).set i x).set k y).set k none).set i none) = (σ.set k none).set i none
  rw [List.set_set, List.set_set, List.set_comm _ _ hne, List.set_set, List.set_set]
theorem lc_turnU {K : PySem.W.Frag} {cs : List C} {i k : Nat} {He Hb H0 H H' : Hp} {σ : St} {L : Addr} {out out' : List D} {v : V} {d1 d2 : D} {tt : TT} {te : TE} (hne : i ≠ k) (s : SR K He Hb H0 H σ cs) (hn : H L = none) (m : Mk1 K H0 H L out H') (rv : Rep K H0 v (.tup [d1, d2])) (hsz : out.length < 1000000)
    (hb : ∀ (He Hb H1 H2 : Hp) (σ : St), SR K He Hb H1 H2 σ ((cs.set i (.sh d1)).set k (.sh d2)) → ∀ Q, (∀ b H3 H4, Grow H1 H2 H3 H4 → (b = false → out' = out) → (b = true → ∀ (He Hb H1 H2 : Hp) (σ : St), SR K He Hb H1 H2 σ ((cs.set i (.sh d1)).set k (.sh d2)) → ∃ d', out' = out ++ [d'] ∧ ∀ Q : VK, (∀ y H4 H5, Grow H1 H2 H4 H5 → Rep K H4 y d' → Q y H5) → te σ H2 Q) → Q b H4) → tt σ H2 Q) :
    gTup K 2 (gCons (gName i) (gCons (gName k) gNil)) v (wipe σ [i, k]) H' fun σ2 H2 => wipe σ2 [i, k] = wipe σ [i, k] ∧ tt σ2 H2 fun b H3 => if b = true then te σ2 H3 fun y H4 => ∃ acc, H4 L = some (.lst acc) ∧ acc.length < sizeLine ∧ Mk1 K H0 H L out' (upd H4 L (.lst (acc ++ [y]))) else Mk1 K H0 H L out' H3 := by
  obtain ⟨H0', acc, g1, h0, hL, r⟩ := m
  cases rv with
  | tup hta rta =>
    cases rta with
    | cons ra rta =>
      cases rta with
      | cons rb rta =>
        cases rta
        refine ⟨_, _, rfl, SqT.of (g1.i _ _ (g1.b _ _ hta)), rfl, _, _, rfl, _, _, rfl, rfl, wipeU hne, ?_⟩
        rename_i v1 v2
        have s1 : SR K He Hb H0' H' (((wipe σ [i, k]).set i (some v1)).set k (some v2)) ((cs.set i (.sh d1)).set k (.sh d2)) := by
          have z := ((((s.grow g1).none k).none i).set (i := i) (v := v1) (d := d1) (ra.mono g1.b)).set (i := k) (v := v2) (d := d2) (rb.mono g1.b)
          have e : (((cs.set k C.any).set i C.any).set i (C.sh d1)).set k (C.sh d2) = (cs.set i (.sh d1)).set k (.sh d2) := by
            rw [List.set_set, List.set_comm _ _ hne, List.set_set, List.set_comm _ _ hne.symm]
          rw [e] at z
          exact z
        refine hb _ _ _ _ _ s1 _ fun b H3 H4 g2 hf ht => ?_
        cases b with
        | false =>
          rw [if_neg Bool.false_ne_true, hf rfl]
          exact Mk1.grow g1 h0 hL r g2
        | true =>
          rw [if_pos rfl]
          obtain ⟨d', e, q⟩ := ht rfl _ _ _ _ _ (s1.grow g2)
          refine q _ fun y H5 H6 g3 ry => ?_
          have z := Mk1.more hn g1 h0 hL r (g2.trans g3) ry
          refine ⟨acc, z.1, by rw [r.len]; exact Nat.lt_of_lt_of_le hsz (by decide), ?_⟩
          rw [e]
          exact z.2
section
variable {X : Cx} {cs : List C} {c : Expr} {ps : List (Int × Int)} {i k : Nat} {sc : Scope} {elt iter : Expr}
/-- [elt for x, y in a list of pairs] -/
theorem ro_LU {K : PySem.W.Frag} (hK : X.K = K) (hne : i ≠ k) (fo : Int × Int → D) (hit : EX X cs iter (.lst (ps.map dP))) (hsz : ps.length < 1000000) (he : ∀ (j : Nat) (p : Int × Int), ps[j]? = some p → BX X sc fun Y => EX Y ((cs.set i (.sh (.int p.1))).set k (.sh (.int p.2))) elt (fo p)) :
    RO K cs (tLc (iList K (wE X iter)) (gTup K 2 (gCons (gName i) (gCons (gName k) gNil))) tYes (uE X sc elt) [i, k]) (ps.map fo) := fun He Hb H0 H σ Q s q => by
  subst hK
  refine hit _ _ _ _ _ _ s fun v H1 H01 g r => ?_
  cases r with
  | @lst a vs _ hl r =>
    refine ⟨a, rfl, ⟨vs, SqL.of (g.i _ _ hl)⟩, fun L hn => ?_⟩
    have s1 := s.grow g
    refine lc_list (K := X.K) (a := a) (xs := vs) (fun j H' => Mk1 X.K H01 H1 L ((ps.take j).map fo) H') (by rw [List.take_zero]; exact Mk1.start g.i hn) (fun j H' _ ⟨H0', acc, g1, _⟩ => SqL.of (g1.i _ _ (g1.b _ _ hl))) (fun j y H' hj m => ?_) (fun H' m => ?_)
    · obtain ⟨d, hd, rd⟩ := r.get hj
      rw [List.getElem?_map] at hd
      cases hp : ps[j]? with
      | none => rw [hp] at hd; cases hd
      | some p =>
        rw [hp] at hd
        cases hd
        refine lc_turnU (out' := (ps.take (j + 1)).map fo) hne s1 hn m rd (by rw [List.length_map, List.length_take]; omega) fun He Hb H1 H2 σ s Q k => k true H1 H2 (Grow.refl s.i) (fun z => Bool.noConfusion z) fun _ He Hb H1 H2 σ s => ⟨fo p, by rw [List.take_add_one, hp]; simp, fun Q k s' H' Cl cl fp => he j p hp s' H' Cl cl fp _ _ _ _ _ _ s fun y H5 H4 g ry => k y H4 H5 g ry⟩
    · rw [r.len, List.length_map, List.take_length] at m
      obtain ⟨H0', acc, g1, h0, hL, r2⟩ := m
      exact q L acc H' H0' (g.trans g1) (g.h.free hn) h0 hL r2
theorem ro_LUif {K : PySem.W.Frag} (hK : X.K = K) (hne : i ≠ k) (fo : Int × Int → D) (fp : Int × Int → Bool) (hit : EX X cs iter (.lst (ps.map dP))) (hsz : ps.length < 1000000) (ht : ∀ (j : Nat) (p : Int × Int), ps[j]? = some p → BX X sc fun Y => TX Y ((cs.set i (.sh (.int p.1))).set k (.sh (.int p.2))) c (fp p))
    (he : ∀ (j : Nat) (p : Int × Int), ps[j]? = some p → fp p = true → BX X sc fun Y => EX Y ((cs.set i (.sh (.int p.1))).set k (.sh (.int p.2))) elt (fo p)) :
    RO K cs (tLc (iList K (wE X iter)) (gTup K 2 (gCons (gName i) (gCons (gName k) gNil))) (uT X sc c) (uE X sc elt) [i, k]) ((ps.filter fp).map fo) := fun He Hb H0 H σ Q s q => by
  subst hK
  refine hit _ _ _ _ _ _ s fun v H1 H01 g r => ?_
  cases r with
  | @lst a vs _ hl r =>
    refine ⟨a, rfl, ⟨vs, SqL.of (g.i _ _ hl)⟩, fun L hn => ?_⟩
    have s1 := s.grow g
    refine lc_list (K := X.K) (a := a) (xs := vs) (fun j H' => Mk1 X.K H01 H1 L (((ps.take j).filter fp).map fo) H') (by rw [List.take_zero]; exact Mk1.start g.i hn) (fun j H' _ ⟨H0', acc, g1, _⟩ => SqL.of (g1.i _ _ (g1.b _ _ hl))) (fun j y H' hj m => ?_) (fun H' m => ?_)
    · obtain ⟨d, hd, rd⟩ := r.get hj
      rw [List.getElem?_map] at hd
      cases hp : ps[j]? with
      | none => rw [hp] at hd; cases hd
      | some p =>
        rw [hp] at hd
        cases hd
        have hle := List.length_filter_le fp (ps.take j)
        rw [List.length_take] at hle
        refine lc_turnU (out' := ((ps.take (j + 1)).filter fp).map fo) hne s1 hn m rd (by rw [List.length_map]; omega) fun He Hb H1 H2 σ s Q k s' H' Cl cl fpp => ht j p hp s' H' Cl cl fpp _ _ _ _ _ _ s fun H5 H4 g => k _ H4 H5 g (fun z => ?_) fun z He Hb H1 H2 σ s => ⟨fo p, ?_, fun Q k s' H' Cl cl fpp => he j p hp z s' H' Cl cl fpp _ _ _ _ _ _ s fun y H5 H4 g ry => k y H4 H5 g ry⟩
        · rw [List.take_add_one, hp]; simp [z]
        · rw [List.take_add_one, hp]; simp [z]
    · rw [r.len, List.length_map, List.take_length] at m
      obtain ⟨H0', acc, g1, h0, hL, r2⟩ := m
      exact q L acc H' H0' (g.trans g1) (g.h.free hn) h0 hL r2
end
end DL

end
section
set_option maxHeartbeats 2000000
namespace DL
open PySem PySem.Spec L2
theorem vals_get : ∀ {xs : List V} {us : List Value}, us.length = xs.length → (∀ (j : Nat) (v : V) (u : Value), xs[j]? = some v → us[j]? = some u → RelV v u) → Vals xs us
  | [], [], _, _ => .nil
  | [], _ :: _, h, _ => by cases h
  | _ :: _, [], h, _ => by cases h
  | x :: xs, u :: us, h, k => .cons (k 0 x u rfl rfl) (vals_get (by simpa using h) fun j v w h1 h2 => k (j + 1) v w (by simpa using h1) (by simpa using h2))
section
variable {X : Cx} {cs : List C} {a : Expr} {ta : TA} {p pos p2 pos2 : Pos} {j : Int}
theorem pe_listR (hcl : X.calm = true) (hml : X.mg "list" = none) (hmr : X.mg "range" = none) (ha : PA X [a] ta) (hgl : Gl X "list" := by rfl) (hgr : Gl X "range" := by rfl) (hsa : starEach [a] X.env = (false, eval a X.env) :: starEach [] X.env := by rfl)
    (hs : starEach [.Call (.Name "range" p2) [a] [] pos2] X.env = (false, eval (.Call (.Name "range" p2) [a] [] pos2) X.env) :: starEach [] X.env := by rfl) :
    PE X (.Call (.Name "list" p) [.Call (.Name "range" p2) [a] [] pos2] [] pos) (fun σ H Q => ta σ H fun vs H1 => ∃ j : Int, vs = [.int j] ∧ (-1000000 ≤ j ∧ j ≤ 1000000) ∧ ∀ l, H1 l = none → Q (.ref l) (upd H1 l (.lst ((List.range j.toNat).map fun i : Nat => V.int i)))) := by
  refine ⟨fun pins s σ H Q I h => ?_⟩
  refine wpAny_Call_Name_kw (ld_blt I hgl hml (show bootBuiltins "list" = some (.type "list") by decide +kernel) ?_ (by decide) (by decide))
  refine PyProof.Rows.callWith_type1 ?_ hs rfl
  rw [hs]
  refine Calls.spliced_cons ?_
  rw [if_neg Bool.false_ne_true]
  refine wpAny_Call_Name_kw (ld_blt I hgr hmr (show bootBuiltins "range" = some (.type "range") by decide +kernel) ?_ (by decide) (by decide))
  refine PyProof.Rows.callWith_type1 (thn (ha.run pos2 pins s σ H _ I h) fun us s1 ⟨vs, H1, I1, r1, q1⟩ => ?_) hsa rfl
  obtain ⟨j, rfl, hb, q⟩ := q1
  cases r1 with
  | cons r rr =>
    cases rr
    obtain ⟨t, rfl⟩ := r
    refine call_range_1 (Calls.spliced_nil ?_)
    have I2 : Inv X pins σ H1 { s1 with heap := s1.heap.push { cls := .type "range", data := .fields #[.int 0 s1.toks, .int j t, .int 1 (s1.toks + 1)] }, toks := s1.toks + 1 + 1 } := I1.kept fun b o e => Heap.get?_push_of_some _ e
    refine call_list_range (n := j.toNat) (I1.ok.hd hcl) (IsRange.new ..) (small_one (by decide) (by decide) (by omega) (by omega)) (by rw [rangeSize_one]; split <;> omega) (by omega) fun h' tk acc c' hk hS hacc => ?_
    have hsz : acc.toList.length = ((List.range j.toNat).map fun i : Nat => V.int (i : Int)).length := by rw [Array.length_toList, hacc.1, List.length_map, List.length_range]
    refine ⟨.ref _, upd H1 _ (.lst ((List.range j.toNat).map fun i : Nat => V.int i)), I2.laid (t' := tk) hk (Nat.le_refl _)
      (show ObjOk X.prog X.w _ _ _ (.lst ((List.range j.toNat).map fun i : Nat => V.int i)) from ⟨?_, acc.toList, c', vals_get hsz fun i v u h1 h2 => ?_, by rw [Array.toArray_toList]; exact hS⟩), rfl, q _ (I2.hok.fresh (Nat.le_refl _))⟩
    · rw [List.length_map, List.length_range]
      exact Nat.le_trans (show j.toNat ≤ 1000000 by omega) (by decide)
    · obtain ⟨t2, e⟩ := hacc.2 i u (by rw [← Array.getElem?_toList]; exact h2)
      rw [List.getElem?_map] at h1
      by_cases hi : i < j.toNat
      · rw [List.getElem?_range hi] at h1
        cases h1
        rw [e]
        exact ⟨t2, by simp⟩
      · rw [List.getElem?_eq_none (by rw [List.length_range]; omega)] at h1
        cases h1
/-- list(range(n)) -/
theorem eo_listR (hcl : X.calm = true) (hml : X.mg "list" = none) (hmr : X.mg "range" = none) (ha : EB X cs a (.int j)) (hb : -1000000 ≤ j ∧ j ≤ 1000000) (hgl : Gl X "list" := by rfl) (hgr : Gl X "range" := by rfl) (hsa : Pl a := by intro _ _; rfl)
    (hs : starEach [.Call (.Name "range" p2) [a] [] pos2] X.env = (false, eval (.Call (.Name "range" p2) [a] [] pos2) X.env) :: starEach [] X.env := by rfl) : EO X cs (.Call (.Name "list" p) [.Call (.Name "range" p2) [a] [] pos2] [] pos) ((List.range j.toNat).map fun i : Nat => D.int i) := fun He Hb H0 H σ Q s q =>
  wE_of (pe_listR hcl hml hmr (pa_cons pe_w pa_nil (hsa _ _)) hgl hgr (hsa _ _) hs) (ha _ _ _ _ _ _ s fun v H1 H01 g1 r1 => by
    cases r1
    refine ⟨j, rfl, hb, fun l hn => q l _ _ _ (g1.trans (Grow.own g1.i hn)) (g1.h.free hn) (g1.i.free hn) upd_same ?_⟩
    have := RepA.ints (K := X.K) (H := H01) (ns := (List.range j.toNat).map fun i : Nat => (i : Int))
    rw [List.map_map, List.map_map] at this
    exact this)
/-- return of an own list -/
theorem sxo_retO {ds : List D} {F : DE} {post : List D → Prop} (i : Nat) {x : Str} (hc : cs[i]? = some (.ol ds)) (k : post ds) (hN : X.N[i]? = some x := by rfl) (hv : Vis X.env.scope x := by first | exact Or.inl rfl | exact Or.inr (Or.inl rfl) | exact Or.inr (Or.inr rfl)) (hd : (x == ("__debug__" : Str)) = false := by decide) (hcd : (x == ("__classdict__" : Str)) = false := by decide) :
    SXo X cs [.Return (some (.Name x p)) pos] F post := fun He Hb H0 H σ E s q r => by
  obtain ⟨l, vs, e, h0, hl, rr⟩ := s.sl i _ hc
  exact wSs_of (pss_one (ps_ret (pe_var hN hv hd hcd))) ⟨_, e, r _ _ _ _ _ k s.gr (s.own i _ l hc rfl e) h0 hl rr⟩
end
end DL

end
section
set_option maxHeartbeats 4000000
namespace Pn
open PySem PySem.Spec L2 DL
/-- all arrows lead between points -/
def AllIn (n : Int) (as : List (Int × Int)) : Prop := ∀ a ∈ as, isPt n a.1 = true ∧ isPt n a.2 = true
theorem AllIn.inN {n : Nat} {as : List (Int × Int)} (h : AllIn n as) : InN n as := fun a ha => by
  have h1 := isPt_iff.mp (h a ha).1
  have h2 := isPt_iff.mp (h a ha).2
  exact ⟨h1.1, h1.2, h2.1, h2.2⟩
theorem allIn_sw {n : Int} {as : List (Int × Int)} : AllIn n (as.map sw) ↔ AllIn n as := by
  constructor
  · intro h a ha
    have := h (sw a) (List.mem_map_of_mem ha)
    exact ⟨this.2, this.1⟩
  · intro h a ha
    obtain ⟨b, hb, rfl⟩ := List.mem_map.mp ha
    exact ⟨(h b hb).2, (h b hb).1⟩
abbrev BdA (n : Int) (as : List (Int × Int)) : Prop := Bd n ∧ as.length ≤ 1000 ∧ ∀ a ∈ as, Bd a.1 ∧ Bd a.2
abbrev rNeedAs (c : At) : List D → (Out → Prop) → Prop := fun ds post => ∃ (n : Int) (as : List (Int × Int)), ds = [.int n, .lst (as.map dP)] ∧ BdA n as ∧ (¬ (0 ≤ n ∧ n ≤ 24) → post (.exc c.pts)) ∧ ((0 ≤ n ∧ n ≤ 24) → (AllIn n as → post (.ret .non)) ∧ (¬ AllIn n as → post (.exc c.pt)))
abbrev rHeights (c : At) (rd : Addr) : List D → (Out → Prop) → Prop := fun ds post => ∃ (n : Int) (as : List (Int × Int)), ds = [.int n, .lst (as.map dP)] ∧ BdA n as ∧ (¬ (0 ≤ n ∧ n ≤ 24) → post (.exc c.pts)) ∧ ((0 ≤ n ∧ n ≤ 24) → (¬ AllIn n as → post (.exc c.pt)) ∧ (AllIn n as → (Long n.toNat as → post (.exc rd)) ∧ (¬ Long n.toNat as → post (.ret (.lst ((hgt n.toNat as).map D.int))))))
section
variable {P : Program} {w : World} {K : PySem.W.Frag} {mg : Str → Option Value} {base : Heap} {c : At} {rd : Addr}
abbrev s_need_arrows : Stmt := top 26
theorem sc_need_arrows : FnScope ["many", "arrows", "tail", "head"] ["many", "arrows"] (defScope s_need_arrows) := ⟨rfl, rfl, rfl, by decide +kernel, rfl, by decide +kernel, by decide +kernel⟩
theorem ok_need_arrows {f : Addr} {fd : FuncData} (F : Fun K "_need_arrows" "_need_arrows" s_need_arrows f fd) (gNeedPts : FnC P w K mg base (L2N.CX P w) 2 "need_points" (rNeedPts c)) (gNeed : FnC P w K mg base (L2N.CX P w) 2 "need_point" (rNeed c)) : FnOk P w K mg base (L2N.CX P w) 3 f fd ["many", "arrows"] (spD K (rNeedAs c)) := by
  have nd := sc_need_arrows.nd
  refine fn_okX F sc_need_arrows (by rintro _ _ ⟨_, _, rfl, _⟩; rfl) (by decide) ?_
  rintro X _ post ⟨cdv, A, outer, s, H, E, rfl⟩ hr ⟨n, as, rfl, ⟨hn, hl, hb⟩, hp0, hp⟩
  have hal : ∀ d ∈ as.map dP, ∃ d1 d2, d = D.tup [d1, d2] := fun d hd => by
    obtain ⟨p, _, rfl⟩ := List.mem_map.mp hd
    exact ⟨_, _, rfl⟩
  refine sxs_cons (sx_exprX (exr_call (post := fun o => (o = .ret .non ∧ (0 ≤ n ∧ n ≤ 24)) ∨ (o = .exc c.pts ∧ ¬ (0 ≤ n ∧ n ≤ 24))) gNeedPts (hr.mono (by decide)) (ea_cons (ex_v 0) ea_nil) (by exact ⟨n, rfl, hn, fun h => .inl ⟨rfl, h⟩, fun h => .inr ⟨rfl, h⟩⟩)) ?_ ?_)
  rotate_left
  · rintro Cl (⟨e, _⟩ | ⟨e, h⟩)
    · cases e
    · cases e; exact hp0 h
  rintro d (⟨_, h0⟩ | ⟨e, _⟩)
  rotate_left
  · cases e
  obtain ⟨hpa, hpb⟩ := hp h0
  refine sxs_forLU 2 3 (fun j cs => (∀ i a, i < j → as[i]? = some a → isPt n a.1 = true ∧ isPt n a.2 = true) ∧ ∃ v2 v3, cs = [.sh (.int n), .sh (.lst (as.map dP)), v2, v3]) rfl nd (passes_of rfl) (ex_v 1) hal ⟨fun i a h => by omega, _, _, rfl⟩ ?_ ?_
  · rintro j d1 d2 _ hd ⟨hI, v2, v3, rfl⟩
    obtain ⟨a, ha, ea⟩ := map_at hd
    cases ea
    have ham := List.mem_of_getElem? ha
    have hab := hb a ham
    refine sxs_cons (sx_exprX (exr_call (post := fun o => (o = .ret .non ∧ isPt n a.1 = true) ∨ (o = .exc c.pt ∧ isPt n a.1 = false)) gNeed (hr.mono (by decide)) (ea_cons (ex_v 0) (ea_cons (ex_v 2) ea_nil)) (by exact ⟨n, a.1, rfl, ⟨hn, hab.1⟩, fun h => .inl ⟨rfl, h⟩, fun h => .inr ⟨rfl, h⟩⟩)) ?_ ?_)
    rotate_left
    · rintro Cl (⟨e, _⟩ | ⟨e, h⟩)
      · cases e
      · cases e; exact hpb fun z => by rw [(z a ham).1] at h; cases h
    rintro d (⟨_, h1⟩ | ⟨e, _⟩)
    rotate_left
    · cases e
    refine sxs_one (sx_exprX (exr_call (post := fun o => (o = .ret .non ∧ isPt n a.2 = true) ∨ (o = .exc c.pt ∧ isPt n a.2 = false)) gNeed (hr.mono (by decide)) (ea_cons (ex_v 0) (ea_cons (ex_v 3) ea_nil)) (by exact ⟨n, a.2, rfl, ⟨hn, hab.2⟩, fun h => .inl ⟨rfl, h⟩, fun h => .inr ⟨rfl, h⟩⟩)) ?_ ?_)
    rotate_left
    · rintro Cl (⟨e, _⟩ | ⟨e, h⟩)
      · cases e
      · cases e; exact hpb fun z => by rw [(z a ham).2] at h; cases h
    rintro d (⟨_, h2⟩ | ⟨e, _⟩)
    rotate_left
    · cases e
    refine ⟨fun i b hi hbi => ?_, _, _, rfl⟩
    rcases Nat.lt_or_ge i j with q | q
    · exact hI i b q hbi
    · obtain rfl : i = j := by omega
      rw [ha] at hbi
      cases hbi
      exact ⟨h1, h2⟩
  · rintro _ ⟨hI, v2, v3, rfl⟩
    refine sxs_nil (hpa fun a ha => ?_)
    obtain ⟨i, hi, e⟩ := List.mem_iff_getElem.mp ha
    exact hI i a (by rw [List.length_map]; exact hi) (by rw [List.getElem?_eq_getElem hi, e])
abbrev sheights : Stmt := top 27
theorem scheights : FnScope ["many", "arrows", "found", "_", "tail", "head"] ["many", "arrows"] (defScope sheights) := ⟨rfl, rfl, rfl, by decide +kernel, rfl, by decide +kernel, by decide +kernel⟩
theorem ok_heights {f : Addr} {fd : FuncData} (F : Fun K "heights" "heights" sheights f fd) (T : Glb mg) (hmax : mg "max" = none) (er : ExF K mg "Round" rd) (gNeedAs : FnC P w K mg base (L2N.CX P w) 3 "_need_arrows" (rNeedAs c)) : FnOk P w K mg base (L2N.CX P w) 4 f fd ["many", "arrows"] (spN K (rHeights c rd)) := by
  have nd := scheights.nd
  refine fn_okNX F scheights (by rintro _ _ ⟨_, _, rfl, _⟩; rfl) (by decide) ?_
  rintro X _ post ⟨cdv, A, outer, s, H, E, rfl⟩ hr ⟨n, as, rfl, ⟨hn, hl, hb⟩, hp0, hp⟩
  have hal : ∀ d ∈ as.map dP, ∃ d1 d2, d = D.tup [d1, d2] := fun d hd => by
    obtain ⟨p, _, rfl⟩ := List.mem_map.mp hd
    exact ⟨_, _, rfl⟩
  refine sxo_cons (sx_exprX (exr_call (post := fun o => (o = .ret .non ∧ (0 ≤ n ∧ n ≤ 24) ∧ AllIn n as) ∨ (o = .exc c.pts ∧ ¬ (0 ≤ n ∧ n ≤ 24)) ∨ (o = .exc c.pt ∧ (0 ≤ n ∧ n ≤ 24) ∧ ¬ AllIn n as)) gNeedAs (hr.mono (by decide)) (ea_cons (ex_v 0) (ea_cons (ex_v 1) ea_nil)) (by exact ⟨n, as, rfl, ⟨hn, hl, hb⟩, fun h => .inr (.inl ⟨rfl, h⟩), fun h => ⟨fun z => .inl ⟨rfl, h, z⟩, fun z => .inr (.inr ⟨rfl, h, z⟩)⟩⟩)) ?_ ?_)
  rotate_left
  · rintro Cl (⟨e, _⟩ | ⟨e, h⟩ | ⟨e, h, z⟩)
    · cases e
    · cases e; exact hp0 h
    · cases e; exact (hp h).1 z
  rintro d (⟨_, h0, hin⟩ | ⟨e, _⟩ | ⟨e, _⟩)
  rotate_left
  · cases e
  · cases e
  obtain ⟨hpr, hpo⟩ := (hp h0).2 hin
  obtain ⟨m, rfl⟩ := Int.eq_ofNat_of_zero_le h0.1
  rw [Int.toNat_natCast] at hpr hpo
  have hm : m ≤ 24 := by omega
  have hI := AllIn.inN hin
  clear hp hp0 hn
  refine sxo_cons (sx_setO 2 nd (EO.to (eo_times (EO.x (eo_lst (ea_cons ex_int ea_nil))) (eb_v 0) (by omega)) (show _ = (hgtR m as 0).map D.int by rw [hgtR, List.map_replicate, Int.toNat_natCast])) ?_)
  refine sxo_cons (sx_forR 3 (fun r cs => ∃ v3 v4 v5, cs = [.sh (.int m), .sh (.lst (as.map dP)), .ol ((hgtR m as r).map D.int), v3, v4, v5]) rfl nd (passes_of rfl) T.range (eb_v 0) (by omega) ⟨_, _, _, rfl⟩ ?_ ?_)
  · rintro r _ hr2 ⟨v3, v4, v5, rfl⟩
    have hlr : (hgtR m as r).length = m := (hgtR_hg hI r).len
    refine sxs_forLU 4 5 (fun j cs => ∃ v4 v5, ((as.take j).foldl relax1 (hgtR m as r)).length = m ∧ cs = [.sh (.int m), .sh (.lst (as.map dP)), .ol (((as.take j).foldl relax1 (hgtR m as r)).map D.int), .sh (.int r), v4, v5]) rfl nd (passes_of rfl) (ex_v 1) hal ⟨_, _, by rw [List.take_zero]; exact hlr, rfl⟩ ?_ ?_
    · rintro j d1 d2 _ hd ⟨v4, v5, hlj, rfl⟩
      obtain ⟨a, ha, ea⟩ := map_at hd
      cases ea
      have hai := hI a (List.mem_of_getElem? ha)
      generalize hf : (as.take j).foldl relax1 (hgtR m as r) = g at *
      have at1 : ∀ x : Int, 0 ≤ x → x < (m : Int) → atI (g.map D.int) x = some (.int (g.getD x.toNat 0)) := fun x h1 h2 => by
        obtain ⟨k, rfl⟩ := Int.eq_ofNat_of_zero_le h1
        refine atI_nat ?_
        rw [List.getElem?_map, Int.toNat_natCast, List.getD_eq_getElem?_getD, List.getElem?_eq_getElem (by omega)]
        rfl
      have hix : ixN (g.map D.int).length a.2 = some a.2.toNat := by
        unfold ixN
        rw [if_pos hai.2.2.1, List.length_map, if_pos (by omega)]
      refine sxs_one (sx_setIx 2 rfl (ex_max2 rfl hmax (EB.sh rfl (eb_ixL (eb_v 2) (eb_v 5) (at1 _ (by omega) (by omega)))) (ex_add (eb_ixL (eb_v 2) (eb_v 4) (at1 _ (by omega) (by omega))) (EX.bo ex_int))) (eb_v 5) hix ⟨.sh (.int a.1), .sh (.int a.2), ?_, ?_⟩)
      · rw [List.take_add_one, ha]
        show ((as.take j ++ [a]).foldl relax1 (hgtR m as r)).length = m
        rw [List.foldl_append, hf]
        show (relax1 g a).length = m
        rw [relax1_len]
        exact hlj
      · rw [List.take_add_one, ha]
        show _ = [C.sh (.int m), C.sh (.lst (as.map dP)), C.ol (((as.take j ++ [a]).foldl relax1 (hgtR m as r)).map D.int), C.sh (.int r), .sh (.int a.1), .sh (.int a.2)]
        rw [List.foldl_append, hf]
        show _ = [C.sh (.int m), C.sh (.lst (as.map dP)), C.ol ((relax1 g a).map D.int), C.sh (.int r), .sh (.int a.1), .sh (.int a.2)]
        unfold relax1
        rw [List.map_set]
        rfl
    · rintro _ ⟨v4, v5, hlj, rfl⟩
      rw [List.length_map, List.take_length]
      exact sxs_nil ⟨_, _, _, rfl⟩
  · rintro _ ⟨v3, v4, v5, rfl⟩
    rw [Int.toNat_natCast]
    refine sxo_cons (sx_if (k := decide (maxI 0 (hgt m as) > (m : Int))) (tx_gt (EX.bo (ex_maxD rfl hmax (eb_v 2) (EX.bo ex_int))) (eb_v 0)) (fun h => ?_) (fun h => sxs_nil ?_))
    · refine sxs_one (sx_raise rfl er (es_c (n := 40) (by decide +kernel)) ?_)
      exact hpr ((hgt_long hI).mp (of_decide_eq_true h))
    · exact sxo_retO 2 rfl (hpo fun z => of_decide_eq_false h ((hgt_long hI).mpr z))
end
end Pn

end
section
set_option maxHeartbeats 2000000
namespace DL
/-! the least of the longest ways -/
def headsOf (as : List (Int × Int)) (p : Int) : List Int := (as.filter fun a => decide (a.1 = p)).map fun a => a.2
def fit (left : List Int) (s : Int) (ch : List Int) : List Int := ch.filter fun v => decide (left.getD v.toNat 0 = s)
def lrow (as : List (Int × Int)) (left : List Int) : Nat → List Int → List Int
  | 0, _ => []
  | s + 1, ch => minI 0 (fit left ((s : Int) + 1) ch) :: lrow as left s (headsOf as (minI 0 (fit left ((s : Int) + 1) ch)))
/-- longest(n, arrows) -/
def lng (n : Nat) (as : List (Int × Int)) : List Int := lrow as (hgt n (as.map sw)) (maxI 0 (hgt n (as.map sw))).toNat (pts n)
/-- a choice that goes on -/
def Goes (n : Nat) (as : List (Int × Int)) (s : Nat) (ch : List Int) : Prop := (∀ v ∈ ch, 0 ≤ v ∧ v < (n : Int)) ∧ (s = 0 ∨ fit (hgt n (as.map sw)) (s : Int) ch ≠ [])
section
variable {n : Nat} {as : List (Int × Int)}
theorem heads_mem {p v : Int} : v ∈ headsOf as p ↔ (p, v) ∈ as := by
  unfold headsOf
  rw [List.mem_map]
  constructor
  · rintro ⟨⟨a, b⟩, h, rfl⟩
    rw [List.mem_filter, decide_eq_true_iff] at h
    obtain ⟨h1, rfl⟩ := h
    exact h1
  · intro h
    exact ⟨(p, v), List.mem_filter.mpr ⟨h, by simp⟩, rfl⟩
theorem fit_mem {left : List Int} {s v : Int} {ch : List Int} : v ∈ fit left s ch ↔ v ∈ ch ∧ left.getD v.toNat 0 = s := by
  unfold fit
  rw [List.mem_filter, decide_eq_true_iff]
theorem goes_start (h : InN n as) : Goes n as (maxI 0 (hgt n (as.map sw))).toNat (pts n) := by
  refine ⟨fun v hv => pts_mem.mp hv, ?_⟩
  have hl := hgt_len (inN_sw h)
  rcases Nat.eq_zero_or_pos n with rfl | hn
  · left
    have : hgt 0 (as.map sw) = [] := List.eq_nil_of_length_eq_zero hl
    rw [this]
    rfl
  · right
    have hne : hgt n (as.map sw) ≠ [] := fun e => by rw [e] at hl; simp at hl; omega
    have hm := maxI_mem (d := 0) hne
    obtain ⟨v, hv, ev⟩ := List.mem_iff_getElem.mp hm
    have e : (hgt n (as.map sw)).getD v 0 = maxI 0 (hgt n (as.map sw)) := by
      rw [List.getD_eq_getElem?_getD, List.getElem?_eq_getElem hv]
      exact ev
    have hp := hgt_pos (inN_sw h) (v := v) (by omega)
    refine List.ne_nil_of_mem (a := (v : Int)) (fit_mem.mpr ⟨pts_mem.mpr ⟨by omega, by omega⟩, ?_⟩)
    rw [Int.toNat_natCast, e, Int.toNat_of_nonneg (by omega)]
theorem goes_min {s : Nat} {ch : List Int} (g : Goes n as (s + 1) ch) : minI 0 (fit (hgt n (as.map sw)) ((s : Int) + 1) ch) ∈ ch ∧ (hgt n (as.map sw)).getD (minI 0 (fit (hgt n (as.map sw)) ((s : Int) + 1) ch)).toNat 0 = (s : Int) + 1 := by
  rcases g.2 with e | e
  · cases e
  · exact fit_mem.mp (minI_mem (d := 0) (by simpa using e))
theorem goes_next (h : InN n as) (hl : ¬ Long n as) {s : Nat} {ch : List Int} (g : Goes n as (s + 1) ch) : Goes n as s (headsOf as (minI 0 (fit (hgt n (as.map sw)) ((s : Int) + 1) ch))) := by
  obtain ⟨h1, h2⟩ := goes_min g
  generalize minI 0 (fit (hgt n (as.map sw)) ((s : Int) + 1) ch) = p at *
  refine ⟨fun v hv => (h _ (heads_mem.mp hv)).2.2, ?_⟩
  cases s with
  | zero => exact .inl rfl
  | succ s =>
    right
    obtain ⟨u, hu, e⟩ := hgt_step (inN_sw h) (fun z => hl ((long_sw h).mp z)) (g.1 p h1) (k := s) (by rw [h2]; push_cast; omega)
    refine List.ne_nil_of_mem (a := u) (fit_mem.mpr ⟨heads_mem.mpr (sw_mem.mp hu), ?_⟩)
    rw [e]
    push_cast
    rfl
theorem lrow_len {left : List Int} : ∀ {s : Nat} {ch : List Int}, (lrow as left s ch).length = s
  | 0, _ => rfl
  | s + 1, ch => by rw [lrow, List.length_cons, lrow_len]
theorem maxI_hgt (h : InN n as) (hl : ¬ Long n as) : 0 ≤ maxI 0 (hgt n as) ∧ maxI 0 (hgt n as) ≤ (n : Int) := by
  refine ⟨?_, Int.not_lt.mp fun z => hl ((hgt_long h).mp z)⟩
  by_cases e : hgt n as = []
  · rw [e]; exact Int.le_refl _
  · have hm := maxI_mem (d := 0) e
    obtain ⟨v, hv, ev⟩ := List.mem_iff_getElem.mp hm
    have hp := hgt_pos h (v := v) (by rw [← hgt_len h]; exact hv)
    rw [List.getD_eq_getElem?_getD, List.getElem?_eq_getElem hv] at hp
    have : (1 : Int) ≤ (hgt n as)[v] := hp
    omega
end
end DL

end
section
set_option maxHeartbeats 4000000
namespace Pn
open PySem PySem.Spec L2 DL
abbrev rLongest (c : At) (rd : Addr) : List D → (Out → Prop) → Prop := fun ds post => ∃ (n : Int) (as : List (Int × Int)), ds = [.int n, .lst (as.map dP)] ∧ BdA n as ∧ (¬ (0 ≤ n ∧ n ≤ 24) → post (.exc c.pts)) ∧ ((0 ≤ n ∧ n ≤ 24) → (¬ AllIn n as → post (.exc c.pt)) ∧ (AllIn n as → (Long n.toNat as → post (.exc rd)) ∧ (¬ Long n.toNat as → post (.ret (.lst ((lng n.toNat as).map D.int))))))
theorem ints_atH {l : List Int} {j : Nat} {d : D} (h : (l.map D.int)[j]? = some d) : ∃ x, x ∈ l ∧ d = .int x := by
  rw [List.getElem?_map] at h
  cases e : l[j]? with
  | none => rw [e] at h; cases h
  | some k => rw [e] at h; exact ⟨k, List.mem_of_getElem? e, (Option.some.inj h).symm⟩
theorem fit_map {L ch : List Int} {z : Int} : (((ch.map D.int).filter fun d => match d with | .int x => decide (L.getD x.toNat 0 = z) | _ => false).map fun d => d) = (fit L z ch).map D.int := by
  unfold fit
  rw [List.map_id', List.filter_map]
  rfl
theorem heads_map {as : List (Int × Int)} {p : Int} : ((as.filter fun a => decide (a.1 = p)).map fun a => D.int a.2) = (headsOf as p).map D.int := by
  unfold headsOf
  rw [List.map_map]
  rfl
theorem bdA_sw {n : Int} {as : List (Int × Int)} (h : BdA n as) : BdA n (as.map sw) := ⟨h.1, by rw [List.length_map]; exact h.2.1, fun a ha => by
  obtain ⟨b, hb, rfl⟩ := List.mem_map.mp ha
  exact ⟨(h.2.2 b hb).2, (h.2.2 b hb).1⟩⟩
section
variable {P : Program} {w : World} {K : PySem.W.Frag} {mg : Str → Option Value} {base : Heap} {c : At} {rd : Addr}
abbrev slongest : Stmt := top 28
theorem sclongest : FnScope ["many", "arrows", "left", "row", "choice", "size", "point", "tail", "head", "one"] ["many", "arrows"] (defScope slongest) := ⟨rfl, rfl, rfl, by decide +kernel, rfl, by decide +kernel, by decide +kernel⟩
theorem ok_longest {f : Addr} {fd : FuncData} (F : Fun K "longest" "longest" slongest f fd) (T : Glb mg) (hmax : mg "max" = none) (hmin : mg "min" = none) (gHeights : FnC P w K mg base (L2N.CX P w) 4 "heights" (rHeights c rd)) : FnOk P w K mg base (L2N.CX P w) 5 f fd ["many", "arrows"] (spN K (rLongest c rd)) := by
  have nd := sclongest.nd
  refine fn_okNX F sclongest (by rintro _ _ ⟨_, _, rfl, _⟩; rfl) (by decide) ?_
  rintro X _ post ⟨cdv, A, outer, s, H, E, rfl⟩ hr ⟨n, as, rfl, hbd, hp0, hp⟩
  have hlen := hbd.2.1
  refine sxo_cons (sx_setX 2 nd (exr_call (post := fun o => (o = .ret (.lst ((hgt n.toNat (as.map sw)).map D.int)) ∧ (0 ≤ n ∧ n ≤ 24) ∧ AllIn n as ∧ ¬ Long n.toNat as) ∨ (o = .exc c.pts ∧ ¬ (0 ≤ n ∧ n ≤ 24)) ∨ (o = .exc c.pt ∧ (0 ≤ n ∧ n ≤ 24) ∧ ¬ AllIn n as) ∨ (o = .exc rd ∧ (0 ≤ n ∧ n ≤ 24) ∧ AllIn n as ∧ Long n.toNat as)) gHeights (hr.mono (by decide)) (ea_cons (ex_v 0) (ea_cons (EO.x (eo_of (pe_lc (own := [("tail", 7), ("head", 8)]) (g := gTup K 2 (gCons (gName 7) (gCons (gName 8) gNil))) (tt := tYes) rfl nd (pi_list pe_w) (blkOk_by (N := ["many", "arrows", "left", "row", "choice", "size", "point", "tail", "head", "one"]) (sc := defScope slongest) (by decide +kernel)) (fun _ _ _ _ _ => pg_tup rfl (pgs_cons (pg_name (i := 7) nd rfl (by first | exact Or.inl rfl | exact Or.inr rfl)) (pgs_cons (pg_name (i := 8) nd rfl (by first | exact Or.inl rfl | exact Or.inr rfl)) pgs_nil))) (fun _ _ _ _ _ => pts_nil) pe_u) (ro_LU rfl (by decide) (fun p => dP (sw p)) (ex_v 1) (by omega) (fun j p hp _ _ _ _ _ => (ex_tup (ea_cons (ex_v 8) (ea_cons (ex_v 7) ea_nil))))))) ea_nil)) (by
    refine ⟨n, as.map sw, by rw [List.map_map]; rfl, bdA_sw hbd, fun h => .inr (.inl ⟨rfl, h⟩), fun h => ⟨fun z => .inr (.inr (.inl ⟨rfl, h, fun q => z (allIn_sw.mpr q)⟩)), fun z => ?_⟩⟩
    have z := allIn_sw.mp z
    have hI : InN n.toNat as := AllIn.inN (by rw [Int.toNat_of_nonneg h.1]; exact z)
    exact ⟨fun q => .inr (.inr (.inr ⟨rfl, h, z, (long_sw hI).mp q⟩)), fun q => .inl ⟨rfl, h, z, fun q2 => q ((long_sw hI).mpr q2)⟩⟩)) ?_ ?_)
  rotate_left
  · rintro Cl (⟨e, _⟩ | ⟨e, h⟩ | ⟨e, h, z⟩ | ⟨e, h, z, q⟩)
    · cases e
    · cases e; exact hp0 h
    · cases e; exact (hp h).1 z
    · cases e; exact ((hp h).2 z).1 q
  rintro d (⟨e, h0, hin, hnl⟩ | ⟨e, _⟩ | ⟨e, _⟩ | ⟨e, _⟩)
  rotate_left
  · cases e
  · cases e
  · cases e
  cases e
  have hpo := ((hp h0).2 hin).2 hnl
  obtain ⟨m, rfl⟩ := Int.eq_ofNat_of_zero_le h0.1
  rw [Int.toNat_natCast] at hpo hnl ⊢
  have hm : m ≤ 24 := by omega
  have hI := AllIn.inN hin
  have hIs := inN_sw hI
  have hMb := maxI_hgt hIs (fun z => hnl ((long_sw hI).mp z))
  have hLl := hgt_len hIs
  have hgs := goes_start hI
  clear hp hp0
  unfold lng at hpo
  generalize hL : hgt m (as.map sw) = L at *
  obtain ⟨M, hM⟩ := Int.eq_ofNat_of_zero_le hMb.1
  rw [hM, Int.toNat_natCast] at hgs hpo
  refine sxo_cons (sx_setO 3 nd (eo_lst ea_nil) (sxo_cons (sx_set 4 nd (EO.x (eo_listR rfl T.list T.range (eb_v 0) (by omega))) ?_)))
  refine sxo_cons (sx_forRD 5 (fun j cs => ∃ row ch v5 v6, Goes m as (M - j) ch ∧ row ++ lrow as L (M - j) ch = lrow as L M (pts m) ∧ row.length = j ∧ ch.length ≤ 1000 ∧ cs = [.sh (.int m), .sh (.lst (as.map dP)), .sh (.lst (L.map D.int)), .ol (row.map D.int), .sh (.lst (ch.map D.int)), v5, v6, .any, .any, .any]) rfl nd (passes_of rfl) T.range (EX.bo (ex_maxD rfl hmax (eb_v 2) (EX.bo ex_int))) (EX.bo ex_int) (EX.bo (ex_neg (EX.bo ex_int))) (by omega) ⟨[], pts m, .any, .any, hgs, rfl, rfl, by unfold pts; rw [List.length_map, List.length_range]; omega, ?_⟩ ?_ ?_)
  · unfold pts
    rw [List.map_map, Int.toNat_natCast]
    rfl
  · rintro j _ hj ⟨row, ch, v5, v6, hg, hrow, hlr, hlc, rfl⟩
    rw [hM] at hj ⊢
    obtain ⟨s', hs'⟩ : ∃ s', M - j = s' + 1 := ⟨M - j - 1, by omega⟩
    rw [hs'] at hg hrow
    have hz : (M : Int) - (j : Int) = (s' : Int) + 1 := by omega
    rw [hz]
    have hmin2 := goes_min hg
    have hnext := goes_next hI hnl hg
    have hne : fit L ((s' : Int) + 1) ch ≠ [] := by
      rcases hg.2 with e | e
      · cases e
      · rw [hL] at e; simpa using e
    rw [hL] at hmin2 hnext
    rw [lrow] at hrow
    have hix : ∀ x : Int, 0 ≤ x → x < (m : Int) → atI (L.map D.int) x = some (.int (L.getD x.toNat 0)) := fun x h1 h2 => by
      obtain ⟨k, rfl⟩ := Int.eq_ofNat_of_zero_le h1
      refine atI_nat ?_
      rw [List.getElem?_map, Int.toNat_natCast, List.getD_eq_getElem?_getD, List.getElem?_eq_getElem (by omega)]
      rfl
    refine sxs_cons (sx_set 6 nd (ex_minL (ns := fit L ((s' : Int) + 1) ch) rfl hmin (EX.bo (EX.to (EO.x (eo_of (pe_lc (own := [("one", 9)]) (g := gName 9) rfl nd (pi_list pe_w) (blkOk_by (N := ["many", "arrows", "left", "row", "choice", "size", "point", "tail", "head", "one"]) (sc := defScope slongest) (by decide +kernel)) (fun _ _ _ _ _ => pg_name (i := 9) nd rfl (by first | exact Or.inl rfl | exact Or.inr rfl)) (pts_u) pe_u) (ro_Lif rfl (fun d => d) (fun d => match d with | .int x => decide (L.getD x.toNat 0 = (s' : Int) + 1) | _ => false) (ex_v 4) (by rw [List.length_map]; omega) (fun j d hd => ?_) (fun j d hd hp2 => ?_)))) (by rw [fit_map]))) hne) ?_)
    · obtain ⟨x, hx0, rfl⟩ := ints_atH hd
      have hx2 := hg.1 x hx0
      have hix2 := hix x hx2.1 hx2.2
      intro _ _ _ _ _
      exact (tx_eqI (eb_ixL (eb_v 2) (eb_v 9) hix2) (eb_v 5))
    · obtain ⟨x, hx0, rfl⟩ := ints_atH hd
      intro _ _ _ _ _
      exact (ex_v 9)
    generalize minI 0 (fit L ((s' : Int) + 1) ch) = p at *
    refine sxs_cons (sx_append 3 rfl (ex_v 6) (by rw [List.length_map]; omega) (fun _ h1 => ps_expr (pe_bm PySem.F.plainAttrs_list PySem.F.slot_list_append PySem.F.type_list_append mt_append (pv 3) (pa_cons h1 pa_nil))) (sxs_cons (sx_setR 4 (ro_LUif rfl (by decide) (fun a => D.int a.2) (fun a => decide (a.1 = p)) (ex_v 1) (by omega) (fun j p hp _ _ _ _ _ => (tx_eqI (eb_v 7) (eb_v 6))) (fun j p hp hp2 _ _ _ _ _ => (ex_v 8))) (ps_setLc (i := 4) (own := [("tail", 7), ("head", 8)]) (g := gTup K 2 (gCons (gName 7) (gCons (gName 8) gNil))) rfl nd rfl rfl (sw_true rfl rfl rfl (by decide +kernel)) (pi_list pe_w) (blkOk_by (N := ["many", "arrows", "left", "row", "choice", "size", "point", "tail", "head", "one"]) (sc := defScope slongest) (by decide +kernel)) (fun _ _ _ _ _ => pg_tup rfl (pgs_cons (pg_name (i := 7) nd rfl (by first | exact Or.inl rfl | exact Or.inr rfl)) (pgs_cons (pg_name (i := 8) nd rfl (by first | exact Or.inl rfl | exact Or.inr rfl)) pgs_nil))) (pts_u) pe_u) ?_)))
    rw [heads_map]
    refine sxs_frL 4 rfl (sxs_nil ⟨row ++ [p], headsOf as p, .sh (.int ((s' : Int) + 1)), .sh (.int p), ?_, ?_, by rw [List.length_append, hlr]; rfl, ?_, ?_⟩)
    · rw [show M - (j + 1) = s' by omega]; exact hnext
    · rw [show M - (j + 1) = s' by omega, ← hrow, List.append_assoc]; rfl
    · have := List.length_filter_le (fun a : Int × Int => decide (a.1 = p)) as
      unfold headsOf
      rw [List.length_map]
      omega
    · rw [List.map_append]; rfl
  · rintro _ ⟨row, ch, v5, v6, hg, hrow, hlr, hlc, rfl⟩
    refine sxo_retO 3 rfl ?_
    rw [hM, show M - ((M : Int) - 0).toNat = 0 by omega, lrow, List.append_nil] at hrow
    rw [hrow]
    exact hpo
end
end Pn

end
section
set_option maxHeartbeats 2000000
namespace DL
open PySem PySem.Spec L2
/-- a call whose answer is known but for a property -/
theorem exr_call0 {X : Cx} {cs : List C} {e : Expr} {es : List Expr} {p pos : Pos} {k : Nat} {CX : CXT} {x : Str} {R : List D → (Out → Prop) → Prop} {ds : List D} {post : Out → Prop} {E : XK} (F : FnC X.prog X.w X.K X.mg X.base CX k x R) (hr : Room k X.A) (hx : Passes CX X E) (ha : EA X cs (e :: es) ds) (h : R ds post) (hno : ∀ Cl, ¬ post (.exc Cl))
    (hg : Gl X x := by rfl) (hdb : (x == ("__debug__" : Str)) = false := by decide) (hs : Pl e := by intro _ _; rfl) (hpl : (backTo pos (starEach es X.env)).any (·.1) = false := by rfl) : EXR X cs (.Call (.Name x p) (e :: es) [] pos) (fun d => post (.ret d)) fun _ => False := fun He Hb H0 H σ Q s tk q => by
  obtain ⟨f, fd, ps, ok, hm, hk, hb⟩ := F.ex
  exact wE_of (pe_call ok hr hg hm hk hb .nil hx pa_w hdb (hs _ _) hpl) (ha _ _ _ _ _ _ s fun vs H1 H01 g1 r1 => ⟨H01, ds, post, g1.i, by rw [List.append_nil]; exact r1, h, fun d' v H2 H02 e g2 r2 => q _ _ _ _ (g1.trans g2) r2 e, fun Cl _ e => (hno Cl e).elim⟩)
theorem SXs.nxi {X : Cx} {cs : List C} {A : List Stmt} {F : DE} {P N : List C → Prop} (h : SXs X cs A { F with nx := P }) (k : ∀ cs', P cs' → N cs') : SXs X cs A { F with nx := N } := fun He Hb H0 H σ E s q =>
  h _ _ _ _ _ _ s ⟨fun cs H0' H' σ' e s' z => q.nx _ _ _ _ e s' (k _ z), q.rt, q.bk, q.ct, q.ex⟩
/-- an if whose ways come together -/
theorem sxs_ifP {X : Cx} {cs : List C} {c : Expr} {A B sts : List Stmt} {pos : Pos} {F : DE} {k : Bool} (P : List C → Prop) (ht : TX X cs c k) (h1 : k = true → SXs X cs A { F with nx := P }) (h2 : k = false → SXs X cs B { F with nx := P }) (hP : ∀ cs', P cs' → SXs X cs' sts F) : SXs X cs (.If c A B pos :: sts) F :=
  sxs_cons (sx_if ht (fun z => (h1 z).nxi hP) (fun z => (h2 z).nxi hP))
end DL

end
section
set_option maxHeartbeats 2000000
namespace DL
open PySem PySem.Spec L2
/-! a new tuple of two new lists -/
def RTp (K : PySem.W.Frag) (post : List D → List D → Prop) : RT := fun Hb v H0' H' => ∃ xs ys t l1 l2 ws1 ws2, v = .ref t ∧ post xs ys ∧ (Hb l1 = none ∧ H0' l1 = none ∧ Hb l2 = none ∧ H0' l2 = none ∧ Hb t = none ∧ H0' t = none) ∧ (l1 ≠ l2 ∧ t ≠ l1 ∧ t ≠ l2) ∧ H' t = some (.tup [.ref l1, .ref l2]) ∧ H' l1 = some (.lst ws1) ∧ H' l2 = some (.lst ws2) ∧ RepA K H0' ws1 xs ∧ RepA K H0' ws2 ys
def spP (K : PySem.W.Frag) (R : List D → (Out → Prop) → Prop) : Sp := fun vs H Q E => ∃ (H0 : Hp) (ds : List D) (post : Out → Prop), Same H0 H ∧ RepA K H0 vs ds ∧ R ds post ∧
  (∀ v H' H0', Grow H0 H H0' H' → RTp K (fun xs ys => post (.ret (.tup [.lst xs, .lst ys]))) H v H0' H' → Q v H') ∧ ∀ Cl H', post (.exc Cl) → Same H H' → E (.ref Cl) none H'
structure FnP (P : Program) (w : World) (K : PySem.W.Frag) (mg : Str → Option Value) (base : Heap) (CX : CXT) (k : Nat) (x : Str) (R : List D → (Out → Prop) → Prop) : Prop where
  ex : ∃ f fd ps, FnOk P w K mg base CX k f fd ps (spP K R) ∧ mg x = some (.ref f) ∧ PySem.W.keepIn K (.ref f) = true ∧ Binds K fd ps []
theorem spP_spD {K : PySem.W.Frag} {R : List D → (Out → Prop) → Prop} {vs : List V} {H : Hp} {Q : VK} {E : XK} (h : spD K R vs H Q E) : spP K R vs H Q E := by
  obtain ⟨H0, ds, post, i, r, h, k1, k2⟩ := h
  refine ⟨H0, ds, post, i, r, h, fun v H' H0' g z => ?_, k2⟩
  obtain ⟨xs, ys, t, l1, l2, ws1, ws2, rfl, z, ⟨b1, h1, b2, h2, bt, ht⟩, ⟨n12, nt1, nt2⟩, et, e1, e2, r1, r2⟩ := z
  have a2 : upd H0' l1 (.lst ws1) l2 = none := by rw [upd_ne n12.symm]; exact h2
  have at_ : upd (upd H0' l1 (.lst ws1)) l2 (.lst ws2) t = none := by rw [upd_ne nt2, upd_ne nt1]; exact ht
  have g1 := g.freeze b1 h1 e1
  have g2 := g1.freeze b2 a2 e2
  have g3 := g2.freeze bt at_ et
  have m1 := same_upd (o := .lst ws1) h1
  have m2 := same_upd (o := .lst ws2) a2
  have m3 := same_upd (o := .tup [.ref l1, .ref l2]) at_
  refine k1 _ _ H' _ z g3 (.tup upd_same (.cons (.lst (xs := ws1) ?_ (((r1.mono m1).mono m2).mono m3)) (.cons (.lst (xs := ws2) ?_ (((r2.mono m1).mono m2).mono m3)) .nil)))
  · rw [upd_ne nt1.symm, upd_ne n12]; exact upd_same
  · rw [upd_ne nt2.symm]; exact upd_same
theorem FnP.d {P : Program} {w : World} {K : PySem.W.Frag} {mg : Str → Option Value} {base : Heap} {CX : CXT} {k : Nat} {x : Str} {R : List D → (Out → Prop) → Prop} (M : FnP P w K mg base CX k x R) : FnC P w K mg base CX k x R := by
  obtain ⟨f, fd, ps, ok, a, b, c⟩ := M.ex
  exact ⟨f, fd, ps, ok.imp fun _ _ _ _ h => spP_spD h, a, b, c⟩
theorem sxq_retP {X : Cx} {cs : List C} {e1 e2 : Expr} {x1 : Nat} {pos pos' : Pos} {F : DE} {xs ys : List D} {post : List D → List D → Prop} (h1 : EO X cs e1 xs) (h2 : EO X cs e2 ys) (k : post xs ys) (hs1 : Pl e1 := by intro _ _; rfl) (hs2 : Pl e2 := by intro _ _; rfl) :
    SXq X cs [.Return (some (.Tuple [e1, e2] x1 pos)) pos'] F (RTp X.K post) := fun He Hb H0 H σ E s q r =>
  wSs_of (pss_one (ps_ret (pe_tup (pa_cons pe_w (pa_cons pe_w pa_nil (hs2 _ _)) (hs1 _ _))))) (h1 _ _ _ _ _ _ s fun l1 vs1 H1 H01 g1 hl1 h01 hv1 rw1 => by
    refine h2 _ _ _ _ _ _ (s.grow g1) fun l2 vs2 H2 H02 g2 hl2 h02 hv2 rw2 => ⟨by show 2 ≤ _; decide, fun p hp => ?_⟩
    have g := g1.trans g2
    have g3 := g.trans (Grow.own (o := .tup [.ref l1, .ref l2]) g.i hp)
    have hv1' := g2.h _ _ hv1
    have h01' := not_tup g2 h01 hv1 (fun xs z => by cases z)
    have n1 : p ≠ l1 := fun e => by rw [e, hv1'] at hp; cases hp
    have n2 : p ≠ l2 := fun e => by rw [e, hv2] at hp; cases hp
    have n12 : l1 ≠ l2 := fun e => by rw [← e, hv1] at hl2; cases hl2
    exact r _ _ _ (s.gr.trans g3) ⟨xs, ys, p, l1, l2, vs1, vs2, rfl, k, ⟨s.gr.h.free hl1, h01', s.gr.h.free (g1.h.free hl2), h02, s.gr.h.free (g.h.free hp), g.i.free hp⟩, ⟨n12, n1, n2⟩, upd_same, by rw [upd_ne n1.symm]; exact hv1', by rw [upd_ne n2.symm]; exact hv2, rw1.mono g2.b, rw2⟩)
section
variable {P : Program} {w : World} {K : PySem.W.Frag} {mg : Str → Option Value} {base : Heap}
theorem fn_okPX {x qual : Str} {st : Stmt} {f : Addr} {fd : FuncData} {N ps : List Str} {k : Nat} {R : List D → (Out → Prop) → Prop} (F : Fun K x qual st f fd) (S : FnScope N ps (defScope st)) (hl : ∀ ds post, R ds post → ds.length = ps.length) (hps : ps.length ≤ N.length)
    (hb : ∀ (X : Cx) ds post, (∃ cdv A outer s H E, X = cxOf (L2N.CX P w) P w K mg base N qual (defScope st) f cdv A outer s H E) → Room k X.A → R ds post → SXq X (ent N.length ds) (defBody st) { nx := fun _ => False, rt := fun _ => False, ex := fun Cl _ => post (.exc Cl) } (RTp K fun xs ys => post (.ret (.tup [.lst xs, .lst ys])))) : FnOk P w K mg base (L2N.CX P w) (k + 1) f fd ps (spP K R) := by
  refine okXN F S (fun vs H Q E h => ?_) (fun cdv A outer s H vs Q E hr h => ?_)
  · obtain ⟨H0, ds, post, _, r, h, _⟩ := h
    rw [r.len]
    exact hl ds post h
  · obtain ⟨H0, ds, post, i, r, h, k1, k2⟩ := h
    refine ⟨_, pss_w, hb _ ds post ⟨_, _, _, _, _, _, rfl⟩ hr h _ _ _ _ _ _ (sr_start i r (by rw [hl ds post h]; exact hps)) ⟨fun _ _ _ _ _ _ z => z.elim, fun _ _ _ _ _ _ z => z.elim, fun _ _ _ _ _ _ z => z.elim, fun _ _ _ _ _ _ z => z.elim, ?_⟩ fun v H0' H' g z => k1 v H' H0' g z⟩
    exact (L2N.takes_of (E := E) rfl rfl rfl rfl).imp fun c d' σ H' hw => by
      obtain ⟨Cl, cs, H0', rfl, rfl, h3, h4, h5⟩ := hw
      exact k2 Cl H' h5 h4.gr.h
end
section
variable {X : Cx} {cs : List C} {R : List D → (Out → Prop) → Prop} {ds xs ys : List D} {CX : CXT} {g : Str} {k : Nat} {es : List Expr} {e : Expr} {p pos : Pos} {E0 : XK} {d2 : D}
/-- again = g(..); again[0].clear(); again[1].append(e2); what follows doesn't read again -/
theorem sxs_lend2 (i : Nat) {x : Str} {e2 : Expr} {rest : List Stmt} {F : DE} {px p3 p4 p5 q3 q4 q5 pos1 pos2 pos3 ap cp aq cq : Pos} {k5 k6 : Nat} (hN : X.N.Nodup) (G : FnP X.prog X.w X.K X.mg X.base CX k g R) (hr : Room k X.A) (hx : Passes CX X E0) (ha : EA X cs (e :: es) ds) (h : R ds (fun o => o = .ret (.tup [.lst xs, .lst ys]))) (hys : ys.length < 1000000)
    (no : ∀ c ∈ cs, c.own = false) (h2 : EX X (cs.set i .any) e2 d2) (hrest : SXs X (cs.set i .any) rest F)
    (hg : Gl X g := by rfl) (hdb : (g == ("__debug__" : Str)) = false := by decide) (hs : Pl e := by intro _ _; rfl) (hpl : (backTo pos (starEach es X.env)).any (·.1) = false := by rfl)
    (hi : X.N[i]? = some x := by rfl) (hlo : Loc X.env.scope x := by first | exact Or.inl rfl | exact Or.inr rfl) (hsw : swapsWith (.Call (.Name g p) (e :: es) [] pos) (some (.Name x px)) pos1.line X.env = pure false := by rfl) (hf : X.fn x = true ∨ X.env.scope.names.lookup x = some .local := by first | exact .inl rfl | exact .inr rfl)
    (hv : Vis X.env.scope x := by first | exact Or.inl rfl | exact Or.inr (Or.inl rfl) | exact Or.inr (Or.inr rfl)) (hd : (x == ("__debug__" : Str)) = false := by decide) (hcd : (x == ("__classdict__" : Str)) = false := by decide)
    (hcl : PE X (.Subscript (.Name x p3) (.Constant (.int 0) k5 p5) p4) (tOp (rIxT X.K) (tVar i) (tC (.int 0))) → PS X (.Expr (.Call (.Attribute (.Subscript (.Name x p3) (.Constant (.int 0) k5 p5) p4) "clear" ap) [] [] cp) pos2) (tDrop (tBM0 X.K "list" rClear (tOp (rIxT X.K) (tVar i) (tC (.int 0))))) := by
      intro h; exact ps_expr (pe_bm0 PySem.F.plainAttrs_list PySem.F.slot_list_clear PySem.F.type_list_clear mt_clear h))
    (hap : ∀ te, PE X e2 te → PE X (.Subscript (.Name x q3) (.Constant (.int 1) k6 q5) q4) (tOp (rIxT X.K) (tVar i) (tC (.int 1))) → PS X (.Expr (.Call (.Attribute (.Subscript (.Name x q3) (.Constant (.int 1) k6 q5) q4) "append" aq) [e2] [] cq) pos3) (tDrop (tBM X.K "list" rAppend (tOp (rIxT X.K) (tVar i) (tC (.int 1))) (tCons te tNil))) := by
      intro te h1 h; exact ps_expr (pe_bm PySem.F.plainAttrs_list PySem.F.slot_list_append PySem.F.type_list_append mt_append h (pa_cons h1 pa_nil)))
    (hpx : PlainIx (.Constant (.int 0) k5 p5) := by intro _ _; rfl) (hpx2 : PlainIx (.Constant (.int 1) k6 q5) := by intro _ _; rfl) (hin : i < cs.length := by exact Nat.le_of_ble_eq_true rfl) :
    SXs X cs (.Assign [.Name x px] (.Call (.Name g p) (e :: es) [] pos) pos1 :: .Expr (.Call (.Attribute (.Subscript (.Name x p3) (.Constant (.int 0) k5 p5) p4) "clear" ap) [] [] cp) pos2 :: .Expr (.Call (.Attribute (.Subscript (.Name x q3) (.Constant (.int 1) k6 q5) q4) "append" aq) [e2] [] cq) pos3 :: rest) F := fun He Hb H0 H σ E s q => by
  obtain ⟨f, fd, ps, ok, hm, hk, hb⟩ := G.ex
  refine wSs_of (pss_cons (ps_set hN hi hlo pe_w hsw hf) pss_w) ?_
  refine wE_of (pe_call ok hr hg hm hk hb .nil hx pa_w hdb (hs _ _) hpl) (ha _ _ _ _ _ _ s fun vs H1 H01 g1 r1 => ⟨H01, ds, _, g1.i, by rw [List.append_nil]; exact r1, h, fun v H3 H03 g3 z => ?_, fun _ _ e => nomatch e⟩)
  obtain ⟨xs', ys', t, l1, l2, ws1, ws2, rfl, ez, ⟨b1, n1, b2, n2, bt, nt⟩, ⟨n12, nt1, nt2⟩, et, e1, e2', r1', r2'⟩ := z
  cases ez
  have g := g1.trans g3
  have s0 : SR X.K He Hb H03 H3 (σ.set i (some (.ref t))) (cs.set i .any) := (s.grow g).setAny i _
  have hσ : (σ.set i (some (.ref t)))[i]? = some (some (V.ref t)) := List.getElem?_set_self (by rw [s.len]; exact hin)
  have hb1 : Hb l1 = none := s.gr.h.free (g1.h.free b1)
  have hb2 : Hb l2 = none := s.gr.h.free (g1.h.free b2)
  refine wSs_of (pss_cons (hcl (pe_ix ix_tup (pe_var hi hv hd hcd) pe_int hpx)) pss_w) ?_
  refine ⟨_, hσ, ?_⟩
  refine ⟨t, _, 0, .ref l1, rfl, rfl, SqT.of et, rfl, .inl ⟨rfl, _, SqL.of e1⟩, l1, ws1, rfl, rfl, e1, ?_⟩
  have no2 := no_set (i := i) (c0 := .any) no rfl
  have s1 : SR X.K He Hb H03 (upd H3 l1 (.lst [])) (σ.set i (some (.ref t))) (cs.set i .any) := s0.later no2 (fun a u e => by rw [upd_ne (ne_of_none e n1)]; exact g3.i _ _ e) (fun a u e => by rw [upd_ne (ne_of_none e hb1)]; exact g.h _ _ (s.gr.h _ _ e))
  have et1 : upd H3 l1 (.lst []) t = some (.tup [.ref l1, .ref l2]) := by rw [upd_ne nt1]; exact et
  have e21 : upd H3 l1 (.lst []) l2 = some (.lst ws2) := by rw [upd_ne n12.symm]; exact e2'
  refine wSs_of (pss_cons (hap _ pe_w (pe_ix ix_tup (pe_var hi hv hd hcd) pe_int hpx2)) pss_w) ?_
  refine ⟨_, hσ, ?_⟩
  refine ⟨t, _, 1, .ref l2, rfl, rfl, SqT.of et1, rfl, .inl ⟨rfl, _, SqL.of e21⟩, ?_⟩
  refine h2 _ _ _ _ _ _ s1 fun v H4 H04 g4 r4 => ?_
  have h04 := not_tup g4 n2 e21 (fun xs z => by cases z)
  refine ⟨l2, ws2, v, rfl, rfl, g4.h _ _ e21, by rw [r2'.len]; exact Nat.lt_of_lt_of_le hys (by decide), ?_⟩
  refine hrest _ _ _ _ _ _ ((s1.grow g4).later no2 (fun a u e => ?_) (fun a u e => ?_)) (q.mono (g.b.trans g4.b))
  · rw [upd_ne (ne_of_none e h04)]; exact g4.i _ _ e
  · rw [upd_ne (ne_of_none e hb2)]; exact g4.h _ _ (s1.gr.h _ _ e)
end
end DL

end
section
set_option maxHeartbeats 2000000
namespace DL
open PySem PySem.Spec L2 PyProof.Rows
/-- min(l, default=d) of a list of ints -/
theorem minD_raw {prog : Program} {w : World} {A : Around} {s : Shared} {l : Addr} {its : List Value} {ns : List Int} {dv : Value} {Q : Value → Shared → Prop} {E : Value → Shared → Prop} (hh : A.handled = none) (hl : s.heap.IsList l its.toArray) (hi : IntsAre its ns)
    (h0 : ns = [] → ∀ h' tk, (∀ b o, s.heap.get? b = some o → h'.get? b = some o) → Q dv { s with heap := h', toks := tk })
    (h : ∀ h' tk M t', (∀ b o, s.heap.get? b = some o → h'.get? b = some o) → M ∈ ns → (∀ a, a ∈ ns → M ≤ a) → Q (.int M t') { s with heap := h', toks := tk }) : wpAny (model prog w) A (call (.builtin "min") [.ref l] [(Str.ofString "default", dv)]) Q E s := by
  obtain ⟨xs, e⟩ := hi.allInts.items
  have hn : numsOf (intItems xs).toList = ns := by rw [← e]; exact hi.numsOf
  rw [nums_intItems] at hn
  subst hn
  rw [e] at hl
  have hs2 : (intItems xs).size = xs.size := by simp [intItems]
  refine call_min_walkD (PySem.W.iter_listW (A := A.in1) hh hl fun s₂ e2 W st hfp hw hk => ?_)
  refine ⟨_, _, _, _, _, _, _, s.heap, (fun i j => decide (numAt xs i < numAt xs j)), rfl, W, st, hfp, hw, hk, fun hz s' m => ?_, fun hp => ⟨fun i j vi vj s' Q' E' _ q1 q2 q3 => CmpOf.ints_lt (numAt xs) (fun _ _ => intItems_at) i j vi vj s' Q' E' q1 q2 q3, fun v s' hP m => ?_⟩⟩
  · obtain ⟨h', tk, rfl, hk'⟩ := PySem.W.moved_old e2 rfl m
    refine h0 ?_ h' tk hk'
    have : xs.toList = [] := List.eq_nil_of_length_eq_zero (by rw [Array.length_toList]; omega)
    rw [this]
    rfl
  · obtain ⟨h', tk, rfl, hk'⟩ := PySem.W.moved_old e2 rfl m
    rw [hs2] at hP hp
    obtain ⟨t, rfl⟩ := intItems_at hP
    obtain ⟨h1, h2⟩ := argBest_lt (numAt xs) (xs.size - 1)
    refine h h' tk _ t hk' ?_ fun a ha => ?_
    · rw [numAt_eq]; exact PySem.getD_mem (by rw [List.length_map, Array.length_toList]; omega)
    · obtain ⟨j, hj, rfl⟩ := PySem.mem_getD ha
      rw [List.length_map, Array.length_toList] at hj
      rw [← numAt_eq]; exact h2 j (by omega)
section
variable {X : Cx} {cs : List C} {a b e : Expr} {es : List Expr} {pos p pos' px kp : Pos} {d : D} {ds : List D} {F : DE} {i j n : Int} {ns : List Int} {x : Str}
theorem cr_minD (hc : X.calm = true) : CallRK X (.builtin "min") ["default"] (fun vs zs H Q => ∃ (a : Addr) (ns : List Int) (j : Int), vs = [.ref a] ∧ zs = [.int j] ∧ SqL X.K H a (ns.map V.int) ∧ Q (.int (minI j ns)) H) := by
  intro pins s σ H vs zs us ws Q I r r2 h
  obtain ⟨a, ns, j, rfl, rfl, hs, q⟩ := h
  obtain ⟨its, rv, hl, _⟩ := I.list hs
  rw [Vals.ref1 r]
  cases r2 with
  | cons rj r2 =>
    cases r2
    obtain ⟨t, rfl⟩ := rj
    refine minD_raw (I.ok.hd hc) hl.isList rv.ints (fun e h' tk hk => ?_) (fun h' tk M t' hk h1 h2 => ?_)
    · subst e; exact ⟨.int _, H, I.kept hk, ⟨_, rfl⟩, q⟩
    · rw [minI_eq h1 h2] at q; exact ⟨.int _, H, I.kept hk, ⟨_, rfl⟩, q⟩
theorem ex_minD {nm : Option Str} (hcl : X.calm = true) (hm : X.mg "min" = none) (ha : EB X cs a (.lst (ns.map D.int))) (hb : EB X cs b (.int j)) (hg : Gl X "min" := by rfl)
    (he : backTo pos (starEach [a] X.env) = (false, eval a X.env) :: backTo pos (starEach [] X.env) := by rfl) (hpl : (backTo pos (starEach [a] X.env)).any (·.1) = false := by rfl)
    (hst : starEach [a] X.env = (false, eval a X.env) :: starEach [] X.env := by rfl)
    (hall : (backToKw pos (keywordEach [⟨nm, b, kp⟩] X.env)).all (·.1.isSome) = true := by rfl) (hnone : (backToKw pos (keywordEach [⟨nm, b, kp⟩] X.env)).any (·.1.isNone) = false := by rfl) (hks : (backToKw pos (keywordEach [⟨nm, b, kp⟩] X.env)).filterMap (·.1) = [("default" : Str)] := by rfl)
    (hpk : ∀ tb, PE X b tb → PK X [⟨nm, b, kp⟩] (tCons tb tNil) := by intro _ h; exact pk_cons h pk_nil) :
    EX X cs (.Call (.Name "min" p) [a] [⟨nm, b, kp⟩] pos) (.int (minI j ns)) := fun He Hb H0 H σ Q s q =>
  wE_of (pe_callBK (cr_minD hcl) hg hm (by decide +kernel) (pa_cons pe_w pa_nil hst) (hpk _ pe_w) (by decide) (by decide) he hpl hall hnone hks) (ha _ _ _ _ _ _ s fun v H1 H01 g1 r1 => hb _ _ _ _ _ _ (s.grow g1) fun y H2 H02 g2 r2 => by
    cases r2
    cases r1 with
    | lst hl r =>
      rw [RepA.ints_of r] at hl
      exact ⟨_, ns, j, rfl, rfl, SqL.of (g2.h _ _ hl), q _ _ _ (g1.trans g2) (.int _)⟩)
end
end DL

end
section
set_option maxHeartbeats 2000000
namespace DL
/-! directions without gaps: no way round, heights are colours, a longest way is tied throughout -/
section
variable {n : Nat} {ts as : List (Int × Int)}
theorem TurnsOk.inN (ht : Tied n ts) (h : TurnsOk n ts as) : InN n as := fun a ha => by
  obtain ⟨h1, h2⟩ := adj_pt ht (h.ad a ha)
  have h1 := isPt_iff.mp h1
  have h2 := isPt_iff.mp h2
  exact ⟨h1.1, h1.2, h2.1, h2.2⟩
theorem TurnsOk.wk (ht : Tied n ts) (h : TurnsOk n ts as) : ∀ {k : Nat} {v : Int}, Wk n as k v → ∃ l : List Int, l.length = k + 1 ∧ l.Nodup ∧ (∀ x ∈ l, 0 ≤ x ∧ x < (n : Int)) ∧ ∀ x ∈ l, x = v ∨ (x, v) ∈ as
  | 0, v, w => ⟨[v], rfl, by simp, fun x hx => by obtain rfl := List.mem_singleton.mp hx; exact w, fun x hx => .inl (List.mem_singleton.mp hx)⟩
  | k + 1, v, ⟨u, hu, w⟩ => by
    obtain ⟨l, h1, h2, h3, h4⟩ := TurnsOk.wk ht h w
    have hv := (h.inN ht _ hu).2.2
    refine ⟨v :: l, by rw [List.length_cons, h1], List.nodup_cons.mpr ⟨fun z => ?_, h2⟩, fun x hx => ?_, fun x hx => ?_⟩
    · rcases h4 v z with e | e
      · subst e
        exact h.one _ hu hu
      · exact h.one _ hu e
    · rcases List.mem_cons.mp hx with rfl | hx
      · exact hv
      · exact h3 x hx
    · rcases List.mem_cons.mp hx with rfl | hx
      · exact .inl rfl
      · right
        rcases h4 x hx with rfl | e
        · exact hu
        · exact h.tr x u v e hu
theorem TurnsOk.short (ht : Tied n ts) (h : TurnsOk n ts as) : ¬ Long n as := by
  rintro ⟨v, w⟩
  obtain ⟨l, h1, h2, h3, _⟩ := h.wk ht w
  have := nodup_le h2 (u := pts n) fun x hx => pts_mem.mpr (h3 x hx)
  have hl : (pts n).length = n := by unfold pts; rw [List.length_map, List.length_range]
  omega
/-- the greatest height is the same both ways -/
theorem max_sw1 (h : InN n as) (hl : ¬ Long n as) : maxI 0 (hgt n as) ≤ maxI 0 (hgt n (as.map sw)) := by
  by_cases e : hgt n as = []
  · rw [e]
    exact (maxI_hgt (inN_sw h) (fun z => hl ((long_sw h).mp z))).1
  · obtain ⟨v, hv, ev⟩ := List.mem_iff_getElem.mp (maxI_mem (d := 0) e)
    rw [hgt_len h] at hv
    obtain ⟨k, e1, w⟩ := (hgt_hg h).up v hv
    obtain ⟨u, w2⟩ := wk_join k 0 v w (wk_in h w)
    rw [Nat.add_zero] at w2
    have hu := wk_in (inN_sw h) w2
    have h2 := hgt_top (inN_sw h) (fun z => hl ((long_sw h).mp z)) (v := u.toNat) (by omega) (k := k) (by rw [Int.toNat_of_nonneg hu.1]; exact w2)
    have h3 := maxI_le (d := 0) _ (getD_mem' (l := hgt n (as.map sw)) (v := u.toNat) (by rw [hgt_len (inN_sw h)]; omega))
    have h4 : (hgt n as).getD v 0 = maxI 0 (hgt n as) := by
      rw [List.getD_eq_getElem?_getD, List.getElem?_eq_getElem (by rw [hgt_len h]; exact hv)]
      exact ev
    omega
theorem max_sw (h : InN n as) (hl : ¬ Long n as) : maxI 0 (hgt n (as.map sw)) = maxI 0 (hgt n as) := by
  refine Int.le_antisymm ?_ (max_sw1 h hl)
  have := max_sw1 (inN_sw h) (fun z => hl ((long_sw h).mp z))
  rw [List.map_map] at this
  rwa [show (sw ∘ sw : Int × Int → Int × Int) = id from rfl, List.map_id] at this
/-- each height up to the greatest is there -/
theorem hgt_all (h : InN n as) (hl : ¬ Long n as) : ∀ (d : Nat) (z : Int), 1 ≤ z → z + d = maxI 0 (hgt n as) → z ∈ hgt n as
  | 0, z, h1, e => by
    have hne : hgt n as ≠ [] := fun q => by rw [q] at e; simp [maxI] at e; omega
    rw [show z = maxI 0 (hgt n as) by omega]
    exact maxI_mem hne
  | d + 1, z, h1, e => by
    have hz := hgt_all h hl d (z + 1) (by omega) (by push_cast at e; omega)
    obtain ⟨v, hv, ev⟩ := List.mem_iff_getElem.mp hz
    rw [hgt_len h] at hv
    have h4 : (hgt n as).getD v 0 = z + 1 := by
      rw [List.getD_eq_getElem?_getD, List.getElem?_eq_getElem (by rw [hgt_len h]; exact hv)]
      exact ev
    obtain ⟨k, rfl⟩ : ∃ k : Nat, z = (k : Int) + 1 := ⟨(z - 1).toNat, by omega⟩
    obtain ⟨u, hu, e2⟩ := hgt_step h hl (v := (v : Int)) ⟨by omega, by omega⟩ (k := k) (by rw [Int.toNat_natCast, h4]; omega)
    have hui := h _ hu
    rw [← e2]
    exact getD_mem' (by rw [hgt_len h]; omega)
/-- the row is a walk -/
theorem lrow_in (h : InN n as) (hl : ¬ Long n as) : ∀ {s : Nat} {ch : List Int}, Goes n as s ch → (∀ v ∈ lrow as (hgt n (as.map sw)) s ch, 0 ≤ v ∧ v < (n : Int)) ∧ (∀ v, (lrow as (hgt n (as.map sw)) s ch).head? = some v → v ∈ ch)
  | 0, ch, _ => ⟨(fun v hv => nomatch hv), (fun v hv => nomatch hv)⟩
  | s + 1, ch, g => by
    have hm := goes_min g
    obtain ⟨h1, h2⟩ := lrow_in h hl (goes_next h hl g)
    rw [lrow]
    refine ⟨fun v hv => ?_, fun v hv => ?_⟩
    · rcases List.mem_cons.mp hv with rfl | hv
      · exact g.1 _ hm.1
      · exact h1 v hv
    · rw [List.head?_cons] at hv
      cases hv
      exact hm.1
theorem lrow_chain (h : InN n as) (hl : ¬ Long n as) (htr : ∀ a b c : Int, (a, b) ∈ as → (b, c) ∈ as → (a, c) ∈ as) : ∀ {s : Nat} {ch : List Int}, Goes n as s ch → (lrow as (hgt n (as.map sw)) s ch).Pairwise fun a b => (a, b) ∈ as
  | 0, ch, _ => .nil
  | s + 1, ch, g => by
    have gn := goes_next h hl g
    have ih := lrow_chain h hl htr gn
    have hh := (lrow_in h hl gn).2
    rw [lrow]
    generalize minI 0 (fit (hgt n (as.map sw)) ((s : Int) + 1) ch) = p at *
    refine List.pairwise_cons.mpr ⟨?_, ih⟩
    generalize lrow as (hgt n (as.map sw)) s (headsOf as p) = l at *
    cases l with
    | nil => exact fun v hv => nomatch hv
    | cons q t =>
      have hq := heads_mem.mp (hh q rfl)
      intro v hv
      rcases List.mem_cons.mp hv with rfl | hv
      · exact hq
      · exact htr p q v hq ((List.pairwise_cons.mp ih).1 v hv)
theorem lng_in (h : InN n as) (hl : ¬ Long n as) : ∀ v ∈ lng n as, 0 ≤ v ∧ v < (n : Int) := (lrow_in h hl (goes_start h)).1
theorem lng_chain (h : InN n as) (hl : ¬ Long n as) (htr : ∀ a b c : Int, (a, b) ∈ as → (b, c) ∈ as → (a, c) ∈ as) : (lng n as).Pairwise fun a b => (a, b) ∈ as := lrow_chain h hl htr (goes_start h)
theorem lng_max (h : InN n as) (hl : ¬ Long n as) : ((lng n as).length : Int) = maxI 0 (hgt n as) := by
  unfold lng
  rw [lrow_len, max_sw h hl, Int.toNat_of_nonneg (maxI_hgt h hl).1]
end
end DL

end
section
set_option maxHeartbeats 4000000
namespace Pn
open PySem PySem.Spec L2 DL
/-- colours and points of a net: heights and a longest way of its directions -/
abbrev rColoured (c : At) (cx : Addr) : List D → (Out → Prop) → Prop := fun ds post => ∃ (n : Nat) (ts : List (Int × Int)), ds = [netD c n ts] ∧ (n ≤ 24 ∧ Tied n ts) ∧ ((turnedK n ts).1 = false → post (.exc cx)) ∧ ((turnedK n ts).1 = true → post (.ret (.tup [.lst ((hgt n (turnedK n ts).2).map D.int), .lst ((lng n (turnedK n ts).2).map D.int)])))
theorem turned_true {n : Nat} {ts : List (Int × Int)} (hn : n ≤ 24) (ht : Tied n ts) (h : (turnedK n ts).1 = true) : TurnsOk n ts (turnedK n ts).2 := by
  rcases turned_ok hn ht with ⟨_, h1⟩ | ⟨h1, _⟩
  · exact h1
  · rw [h] at h1; cases h1
section
variable {P : Program} {w : World} {K : PySem.W.Frag} {mg : Str → Option Value} {base : Heap} {c : At} {rd cx : Addr}
theorem hgt_isP {m : Nat} {as : List (Int × Int)} (hm : m ≤ 24) (hlen : as.length ≤ 1000) (hI : InN m as) (hl : ¬ Long m as) {d : D} (e : d = .lst ((hgt m as).map D.int)) : rHeights c rd [.int m, .lst (as.map dP)] (fun o => o = .ret d) :=
  ⟨m, as, rfl, ⟨bd_small (by omega), hlen, fun a ha => by have := hI a ha; exact ⟨bd_small (by omega), bd_small (by omega)⟩⟩, fun h => (h (by omega)).elim, fun _ => ⟨fun z => (z fun a ha => by have := hI a ha; exact ⟨isPt_iff.mpr ⟨this.1, this.2.1⟩, isPt_iff.mpr ⟨this.2.2.1, this.2.2.2⟩⟩).elim, fun _ => ⟨fun z => (hl z).elim, fun _ => by rw [e]; rfl⟩⟩⟩
theorem lng_isP {m : Nat} {as : List (Int × Int)} (hm : m ≤ 24) (hlen : as.length ≤ 1000) (hI : InN m as) (hl : ¬ Long m as) {d : D} (e : d = .lst ((lng m as).map D.int)) : rLongest c rd [.int m, .lst (as.map dP)] (fun o => o = .ret d) :=
  ⟨m, as, rfl, ⟨bd_small (by omega), hlen, fun a ha => by have := hI a ha; exact ⟨bd_small (by omega), bd_small (by omega)⟩⟩, fun h => (h (by omega)).elim, fun _ => ⟨fun z => (z fun a ha => by have := hI a ha; exact ⟨isPt_iff.mpr ⟨this.1, this.2.1⟩, isPt_iff.mpr ⟨this.2.2.1, this.2.2.2⟩⟩).elim, fun _ => ⟨fun z => (hl z).elim, fun _ => by rw [e]; rfl⟩⟩⟩
abbrev scoloured : Stmt := top 34
theorem sccoloured : FnScope ["net", "done", "arrows"] ["net"] (defScope scoloured) := ⟨rfl, rfl, rfl, by decide +kernel, rfl, by decide +kernel, by decide +kernel⟩
theorem ok_coloured {f : Addr} {fd : FuncData} (F : Fun K "coloured" "coloured" scoloured f fd) (T : LawK K mg c) (ec : ExF K mg "Clash" cx) (gTurned : FnC P w K mg base CX0 7 "turned" (rTurned c)) (gHeightsN : FnN P w K mg base (L2N.CX P w) 4 "heights" (rHeights c rd)) (gLongestN : FnN P w K mg base (L2N.CX P w) 5 "longest" (rLongest c rd)) : FnOk P w K mg base (L2N.CX P w) 8 f fd ["net"] (spP K (rColoured c cx)) := by
  have nd := sccoloured.nd
  refine fn_okPX F sccoloured (by rintro _ _ ⟨_, _, rfl, _⟩; rfl) (by decide) ?_
  rintro X _ post ⟨cdv, A, outer, s, H, E, rfl⟩ hr ⟨n, ts, rfl, ⟨hn, ht⟩, hq, hp⟩
  refine sxq_cons (sx_unp2 1 2 rfl nd (ex_call gTurned (hr.mono (by decide)) pass0 (ea_cons (ex_v 0) ea_nil) (by exact ⟨n, ts, rfl, ⟨hn, ht⟩, rfl⟩)) ?_)
  have hok := turned_true hn ht
  have hlen := turned_len hn ht
  generalize (turnedK n ts).1 = dn at *
  generalize (turnedK n ts).2 = as at *
  refine sxq_if (tx_not (tx_val (eb_v 1))) (fun h => ?_) (fun h => sxq_nil ?_)
  · refine sxq_one (sx_raise rfl ec (es_c (n := 100) (by decide +kernel)) ?_)
    cases dn with
    | false => exact hq rfl
    | true => cases h
  · obtain rfl : dn = true := by simpa using h
    have hk := hok rfl
    have hI := hk.inN ht
    have hs := hk.short ht
    exact sxq_retP (eo_call gHeightsN (hr.mono (by decide)) passN (ea_cons (ex_fld T.cl T.n_many (ex_v 0) l_many) (ea_cons (ex_v 2) ea_nil)) (hgt_isP hn (by omega) hI hs rfl)) (eo_call gLongestN (hr.mono (by decide)) passN (ea_cons (ex_fld T.cl T.n_many (ex_v 0) l_many) (ea_cons (ex_v 2) ea_nil)) (lng_isP hn (by omega) hI hs rfl)) (hp rfl)
end
end Pn

end
section
set_option maxHeartbeats 2000000
namespace DL
open PySem PySem.Spec L2
section
variable {X : Cx} {cs : List C} {c a b : Expr} {i : Nat} {sc : Scope} {elt : Expr}
/-- [elt for x in range(l, m) if c] -/
theorem ro_R2if {K : PySem.W.Frag} (hK : X.K = K) {l m : Int} (fo : Nat → D) (fp : Nat → Bool) (ha : EB X cs a (.int l)) (hb : EB X cs b (.int m)) (hbd : -1000000 ≤ l ∧ l ≤ 1000000 ∧ -1000000 ≤ m ∧ m < 1000000 ∧ m - l < 1000000) (hpl : Pl a) (hpl2 : Pl b) (ht : ∀ j : Nat, j < (m - l).toNat → BX X sc fun Y => TX Y (cs.set i (.sh (.int (l + j)))) c (fp j))
    (he : ∀ j : Nat, j < (m - l).toNat → fp j = true → BX X sc fun Y => EX Y (cs.set i (.sh (.int (l + j)))) elt (fo j)) :
    RO K cs (tLc (iRng2 (wA X [a, b])) (gName i) (uT X sc c) (uE X sc elt) [i]) (((List.range (m - l).toNat).filter fp).map fo) := fun He Hb H0 H σ Q s q => by
  subst hK
  refine eab_cons ha (eab_cons hb eab_nil hpl2) hpl _ _ _ _ _ _ s fun vs H1 H01 g r => ?_
  cases r with
  | cons r1 r =>
    cases r with
    | cons r2 r =>
      cases r
      cases r1
      cases r2
      refine ⟨l, m, rfl, by omega, fun L hn => ?_⟩
      have s1 := s.grow g
      refine lc_range (lo := l) (n := (m - l).toNat) (fun j H' => Mk1 X.K H01 H1 L (((List.range j).filter fp).map fo) H') (by exact Mk1.start g.i hn) (fun j H' hj mk => ?_) (fun H' mk => ?_)
      · have hle := List.length_filter_le fp (List.range j)
        rw [List.length_range] at hle
        refine lc_turn (d := .int (l + j)) (out' := ((List.range (j + 1)).filter fp).map fo) s1 hn mk (.int _) (by rw [List.length_map]; omega) fun He Hb H1 H2 σ s Q k s' H' Cl cl fpp => ht j hj s' H' Cl cl fpp _ _ _ _ _ _ s fun H5 H4 g => k _ H4 H5 g (fun z => ?_) fun z He Hb H1 H2 σ s => ⟨fo j, ?_, fun Q k s' H' Cl cl fpp => he j hj z s' H' Cl cl fpp _ _ _ _ _ _ s fun y H5 H4 g ry => k y H4 H5 g ry⟩
        · rw [List.range_succ]; simp [z]
        · rw [List.range_succ]; simp [z]
      · obtain ⟨H0', acc, g1, h0, hL, r2⟩ := mk
        exact q L acc H' H0' (g.trans g1) (g.h.free hn) h0 hL r2
end
end DL

end
section
set_option maxHeartbeats 4000000
namespace Lw
open PySem PySem.Spec L2 DL
abbrev rWholes : List D → (Out → Prop) → Prop := fun ds post => ∃ l : List Int, ds = [.lst (l.map D.int)] ∧ l.length ≤ 1000 ∧ post (.ret (.bl true))
abbrev rRef13 (c : Pn.At) : List D → (Out → Prop) → Prop := fun ds post => ∃ (n : Nat) (ts : List (Int × Int)), ds = [Pn.netD c n ts] ∧ (n ≤ 24 ∧ Tied n ts) ∧ (turnedK n ts).1 = false ∧ post (.ret (.bl true))
abbrev rRight13 : List D → (Out → Prop) → Prop := fun ds post => ∃ (n : Nat) (ts as : List (Int × Int)), ds = [.dic (dk (bothK ts) fun _ => true), .int n, .tup [.lst ((hgt n as).map D.int), .lst ((lng n as).map D.int)]] ∧ (n ≤ 24 ∧ Tied n ts ∧ TurnsOk n ts as ∧ ts.length ≤ 1000) ∧ post (.ret (.bl true))
theorem ints_at13 {l : List Int} {j : Nat} {d : D} (h : (l.map D.int)[j]? = some d) : ∃ x, x ∈ l ∧ d = .int x := by
  rw [List.getElem?_map] at h
  cases e : l[j]? with
  | none => rw [e] at h; cases h
  | some k => rw [e] at h; exact ⟨k, List.mem_of_getElem? e, (Option.some.inj h).symm⟩
theorem none_of {α : Type} {l : List α} {f : α → D} : (l.filter fun _ => false).map f = (([] : List Int).map D.int) := by
  rw [List.filter_eq_nil_iff.mpr (by simp)]
  rfl
theorem qnil : eqS (.lst (([] : List Int).map D.int)) (.lst (([] : List Int).map D.int)) = true := (eqS_iff (sh_ints (n := 0)) (sh_ints (n := 0))).mpr rfl
section
variable {P : Program} {w : World} {K : PySem.W.Frag} {mg : Str → Option Value} {base : Heap} {cl : Nat → Addr} {te : Addr} {is : List Nat} {c : Pn.At} {cx : Addr}
abbrev s_law_wholes : Stmt := top 59
theorem sc_law_wholes : FnScope ["_law_told_here", "_law_one"] ["_law_told_here"] (defScope s_law_wholes) := ⟨rfl, rfl, rfl, by decide +kernel, rfl, by decide +kernel, by decide +kernel⟩
theorem ok_wholes {f : Addr} {fd : FuncData} (F : Fun K "_law_wholes" "_law_wholes" s_law_wholes f fd) (T : Glb mg) (gWhole : FnC P w K mg base CX0 1 "_law_whole" rWhole) : FnOk P w K mg base CX0 2 f fd ["_law_told_here"] (spD K rWholes) := by
  have nd := sc_law_wholes.nd
  refine fn_okD F sc_law_wholes (by rintro _ _ ⟨_, rfl, _⟩; rfl) (by decide) ?_
  rintro X _ post ⟨cdv, A, outer, s, H, E, rfl⟩ hr ⟨l, rfl, hl, hp⟩
  refine sxs_one (sx_ret (EX.to (d' := .bl true) (ex_and (EX.bo (ex_isi (T := "list") T.isinst T.list (eb_v 0) (by decide +kernel) (by first | exact ki_tl | exact ki_ll | exact ki_il | exact ki_bl | exact ki_nl))) (fun hB => ex_one (ex_eqS hr (EX.bo (EX.to (d' := .lst (([] : List Int).map D.int)) (EO.x (eo_of (pe_lc (own := [("_law_one", 1)]) (g := gName 1) rfl nd (pi_list pe_w) (blkOk_by (N := ["_law_told_here", "_law_one"]) (sc := defScope s_law_wholes) (by decide +kernel)) (fun _ _ _ _ _ => pg_name (i := 1) nd rfl (by first | exact Or.inl rfl | exact Or.inr rfl)) (pts_u) pe_u) (ro_Lif rfl (fun d => d) (fun _ => false) (ex_v 0) (by rw [List.length_map]; omega) (fun j d hd => ?_) (fun j d hd hp2 => by cases hp2)))) (by rw [none_of]))) (EX.bo (EO.x (eo_lst ea_nil))) (sh_ints (l := []) (n := 0)) (sh_ints (l := []) (n := 0))))) ?_) hp)
  · obtain ⟨x, hx0, rfl⟩ := ints_at13 hd
    intro _ _ _ _ _
    exact TX.to (tx_not (tx_val (EX.bo (ex_call gWhole (hr.mono (by decide)) pass0 (ea_cons (ex_v 1) ea_nil) ⟨_, rfl, rfl⟩)))) rfl
  · exact congrArg (fun b => D.bl (true && b)) qnil
end
end Lw

end
section
set_option maxHeartbeats 4000000
namespace Lw
open PySem PySem.Spec L2 DL
section
variable {P : Program} {w : World} {K : PySem.W.Frag} {mg : Str → Option Value} {base : Heap} {c : Pn.At} {cx : Addr}
abbrev s_law_right : Stmt := top 60
theorem sc_law_right : FnScope ["_law_both_here", "_law_many", "_law_told_here", "_law_colours", "_law_points", "_law_at", "_law_other", "_law_pair_here", "_law_point", "_law_one"] ["_law_both_here", "_law_many", "_law_told_here"] (defScope s_law_right) := ⟨rfl, rfl, rfl, by decide +kernel, rfl, by decide +kernel, by decide +kernel⟩
theorem ok_right13 {f : Addr} {fd : FuncData} (F : Fun K "_law_right" "_law_right" s_law_right f fd) (T : Glb mg) (hmin : mg "min" = none) (hmax : mg "max" = none) (gWholes : FnC P w K mg base CX0 2 "_law_wholes" rWholes) : FnOk P w K mg base CX0 3 f fd ["_law_both_here", "_law_many", "_law_told_here"] (spD K rRight13) := by
  have nd := sc_law_right.nd
  refine fn_okD F sc_law_right (by rintro _ _ ⟨_, _, _, rfl, _⟩; rfl) (by decide) ?_
  rintro X _ post ⟨cdv, A, outer, s, H, E, rfl⟩ hr ⟨n, ts, as, rfl, ⟨hn, ht, hk, hlen⟩, hp⟩
  have hI := hk.inN ht
  have hs := hk.short ht
  have hcl := hgt_len hI
  have hpm := lng_max hI hs
  have hmb := maxI_hgt hI hs
  have hpl : (lng n as).length ≤ 24 := by omega
  have hin := lng_in hI hs
  have hch := lng_chain hI hs hk.tr
  have hall := fun d z h1 h2 => hgt_all hI hs d z h1 h2
  have harr := fun (u v : Int) (h : (u, v) ∈ as) => hgt_arrow hI hs h
  have hpos : ∀ a ∈ hgt n as, 1 ≤ a := fun a ha => by
    obtain ⟨v, hv, ev⟩ := List.mem_iff_getElem.mp ha
    have := hgt_pos hI (v := v) (by omega)
    rw [List.getD_eq_getElem?_getD, List.getElem?_eq_getElem hv] at this
    rw [← ev]
    exact this
  have hmin1 : 1 ≤ minI 1 (hgt n as) := by
    by_cases e : hgt n as = []
    · rw [e]; exact Int.le_refl _
    · exact hpos _ (minI_mem e)
  generalize hgt n as = co at *
  generalize lng n as = po at *
  refine sxs_cons (sx_ifF (TX.to (WB.t (wx_or (tx_not (tx_val (EX.bo (ex_isi (T := "tuple") T.isinst T.tuple (eb_v 2) (by decide +kernel) (by first | exact ki_tt | exact ki_lt | exact ki_it | exact ki_bt | exact ki_nt))))) (fun hB => (wx_or (tx_neI (EX.bo (ex_lenT T.len (eb_v 2))) (EX.bo ex_int)) (fun hB => (wx_or (tx_not (tx_val (EX.bo (ex_call gWholes (hr.mono (by decide)) pass0 (ea_cons (ex_ixT (ex_v 2) (EX.bo ex_int) rfl) ea_nil) (by exact ⟨_, rfl, by omega, rfl⟩))))) (fun hB => (wx_or1 (tx_not (tx_val (EX.bo (ex_call gWholes (hr.mono (by decide)) pass0 (ea_cons (ex_ixT (ex_v 2) (EX.bo ex_int) rfl) ea_nil) (by exact ⟨_, rfl, by omega, rfl⟩))))))))))))) rfl) (sxs_nil (sxs_cons (sx_set 3 nd (ex_ixT (ex_v 2) (EX.bo ex_int) rfl) (sxs_cons (sx_set 4 nd (ex_ixT (ex_v 2) (EX.bo ex_int) rfl) ?_))))))
  refine sxs_at [.sh (.dic (dk (bothK ts) fun _ => true)), .sh (.int n), .sh (.tup [.lst (co.map D.int), .lst (po.map D.int)]), .sh (.lst (co.map D.int)), .sh (.lst (po.map D.int)), .any, .any, .any, .any, .any] rfl ?_
  refine sxs_cons (sx_ifF (TX.to (WB.t (wx_or (tx_neI (EX.bo (ex_lenL T.len (eb_v 3))) (eb_v 1)) (fun hB => (wx_or1 (tx_neI (EX.bo (ex_lenL T.len (eb_v 4))) (EX.bo (ex_maxD rfl hmax (eb_v 3) (EX.bo ex_int)))))))) ?_) (sxs_nil ?_))
  · rw [List.length_map, List.length_map, hcl, hpm]
    simp
  -- each colour is there
  refine sxs_cons (sx_ifF (TX.to (k := (!eqS (.lst (([] : List Int).map D.int)) (.lst [])) || decide (minI 1 co < 1)) (WB.t (wx_or (tx_neS hr (EX.bo (EX.to (d' := .lst (([] : List Int).map D.int)) (EO.x (eo_of (pe_lc (own := [("_law_one", 9)]) (g := gName 9) rfl nd (pi_range2 (by rfl) T.range pa_w) (blkOk_by (N := ["_law_both_here", "_law_many", "_law_told_here", "_law_colours", "_law_points", "_law_at", "_law_other", "_law_pair_here", "_law_point", "_law_one"]) (sc := defScope s_law_right) (by decide +kernel)) (fun _ _ _ _ _ => pg_name (i := 9) nd rfl (by first | exact Or.inl rfl | exact Or.inr rfl)) (pts_u) pe_u) (ro_R2if rfl (fun j : Nat => D.int (1 + (j : Int))) (fun _ => false) (EX.bo ex_int) (EX.bo (ex_add (EX.bo (ex_lenL T.len (eb_v 4))) (EX.bo ex_int))) (by rw [List.length_map]; omega) (by intro _ _; rfl) (by intro _ _; rfl) (fun j hj => ?_) (fun j hj hp2 => by cases hp2)))) (by rw [none_of]))) (EX.bo (EO.x (eo_lst ea_nil))) (sh_ints (l := []) (n := 0)) (sh_ints (l := []) (n := 0))) (fun hB => wx_or1 (tx_lt (EX.bo (ex_minD rfl hmin (eb_v 3) (EX.bo ex_int))) (EX.bo ex_int))))) ?_) (sxs_nil ?_))
  · intro _ _ _ _ _
    refine TX.to (tx_ninI (eb_v 9) (eb_v 3)) ?_
    have : (1 : Int) + (j : Int) ∈ co := hall (po.length - (j + 1)) _ (by omega) (by rw [List.length_map] at hj; omega)
    simp [this]
  · rw [show eqS (.lst (([] : List Int).map D.int)) (.lst []) = true from qnil, decide_eq_false (by omega)]
    rfl
  -- tied points have different colours
  have hco : ∀ x : Int, 0 ≤ x → x < (n : Int) → atI (co.map D.int) x = some (.int (co.getD x.toNat 0)) := fun x h1 h2 => by
    obtain ⟨k, rfl⟩ := Int.eq_ofNat_of_zero_le h1
    refine atI_nat ?_
    rw [List.getElem?_map, Int.toNat_natCast, List.getD_eq_getElem?_getD, List.getElem?_eq_getElem (by omega)]
    rfl
  have hbl := bothK_len ts
  refine sxs_cons (sx_ifF (TX.to (k := !eqS (.lst (([] : List Int).map D.int)) (.lst [])) (tx_neS hr (EX.bo (EX.to (d' := .lst (([] : List Int).map D.int)) (EO.x (eo_of (pe_lc (own := [("_law_pair_here", 7)]) (g := gName 7) rfl nd (pi_list pe_w) (blkOk_by (N := ["_law_both_here", "_law_many", "_law_told_here", "_law_colours", "_law_points", "_law_at", "_law_other", "_law_pair_here", "_law_point", "_law_one"]) (sc := defScope s_law_right) (by decide +kernel)) (fun _ _ _ _ _ => pg_name (i := 7) nd rfl (by first | exact Or.inl rfl | exact Or.inr rfl)) (pts_u) pe_u) (ro_Lif rfl (fun d => d) (fun _ => false) (EX.to (d' := .lst ((bothK ts).map dP)) (EO.x (eo_listD rfl T.list (eb_v 0))) (by rw [keys_all])) (by rw [List.length_map]; omega) (fun j d hd => ?_) (fun j d hd hp2 => by cases hp2)))) (by rw [none_of]))) (EX.bo (EO.x (eo_lst ea_nil))) (sh_ints (l := []) (n := 0)) (sh_ints (l := []) (n := 0))) (by rw [show eqS (.lst (([] : List Int).map D.int)) (.lst []) = true from qnil]; rfl)) (sxs_nil ?_))
  · obtain ⟨q, hq, rfl⟩ := map_at hd
    have hqa : adj ts q.1 q.2 = true := adj_iff.mpr (((bothK_spec _ ts rfl).2.2 q).mp (List.mem_of_getElem? hq))
    obtain ⟨p1, p2⟩ := adj_pt ht hqa
    have p1 := isPt_iff.mp p1
    have p2 := isPt_iff.mp p2
    intro _ _ _ _ _
    refine TX.to (tx_eqI (eb_ixL (eb_v 3) (eb_ixT (eb_v 7) (EX.bo ex_int) rfl) (by first | exact hco _ p1.1 p1.2 | exact hco _ p2.1 p2.2)) (eb_ixL (eb_v 3) (eb_ixT (eb_v 7) (EX.bo ex_int) rfl) (by first | exact hco _ p1.1 p1.2 | exact hco _ p2.1 p2.2))) ?_
    rcases hk.cov q hqa with z | z
    · have := harr q.1 q.2 z
      exact decide_eq_false (by omega)
    · have := harr q.2 q.1 z
      exact decide_eq_false (by omega)
  have hpo : ∀ j : Nat, j < po.length → atI (po.map D.int) (j : Int) = some (.int (po.getD j 0)) := fun j hj => by
    refine atI_nat ?_
    rw [List.getElem?_map, List.getD_eq_getElem?_getD, List.getElem?_eq_getElem hj]
    rfl
  refine sxs_cons (sx_forR 5 (fun j cs => ∃ v5 v6, cs = [.sh (.dic (dk (bothK ts) fun _ => true)), .sh (.int n), .sh (.tup [.lst (co.map D.int), .lst (po.map D.int)]), .sh (.lst (co.map D.int)), .sh (.lst (po.map D.int)), v5, v6, .any, .any, .any]) rfl nd .never T.range (EX.bo (ex_lenL T.len (eb_v 4))) (by rw [List.length_map]; omega) ⟨_, _, rfl⟩ ?_ ?_)
  · rintro j _ hj ⟨v5, v6, rfl⟩
    rw [List.length_map, Int.toNat_natCast] at hj
    refine sxs_one (sx_forL 6 (fun i cs => ∃ v6, cs = [.sh (.dic (dk (bothK ts) fun _ => true)), .sh (.int n), .sh (.tup [.lst (co.map D.int), .lst (po.map D.int)]), .sh (.lst (co.map D.int)), .sh (.lst (po.map D.int)), .sh (.int j), v6, .any, .any, .any]) rfl nd .never (EX.to (d' := .lst ((po.take j).map D.int)) (EO.x (eo_slTo (ex_v 4) (eb_v 5) (by rw [List.length_map]; omega))) (by rw [List.map_take])) ⟨_, rfl⟩ ?_ ?_)
    · rintro i d _ hd ⟨v6', rfl⟩
      obtain ⟨x, hx, rfl⟩ := ints_at13 hd
      have hxa : adj ts x (po.getD j 0) = true := by
        obtain ⟨i2, hi2, e2⟩ := List.mem_iff_getElem.mp hx
        rw [List.length_take] at hi2
        rw [List.getElem_take] at e2
        have := List.pairwise_iff_getElem.mp hch i2 j (by omega) hj (by omega)
        rw [e2] at this
        rw [List.getD_eq_getElem?_getD, List.getElem?_eq_getElem hj]
        exact hk.ad _ this
      refine sxs_one (sx_ifF (TX.to (tx_ninD hr (EX.bo (ex_tup (ea_cons (ex_v 6) (ea_cons (ex_ixL (ex_v 4) (eb_v 5) (hpo j hj)) ea_nil)))) (eb_v 0)) (by rw [both_has, hxa]; rfl)) (sxs_nil ⟨_, rfl⟩))
    · rintro _ ⟨v6', rfl⟩
      exact ⟨_, _, rfl⟩
  · rintro _ ⟨v5, v6, rfl⟩
    refine sxs_one (sx_ret (EX.to (d' := .bl true) (ex_eqS hr (EX.bo (EX.to (d' := .lst (([] : List Int).map D.int)) (EO.x (eo_of (pe_lc (own := [("_law_point", 8)]) (g := gName 8) rfl nd (pi_list pe_w) (blkOk_by (N := ["_law_both_here", "_law_many", "_law_told_here", "_law_colours", "_law_points", "_law_at", "_law_other", "_law_pair_here", "_law_point", "_law_one"]) (sc := defScope s_law_right) (by decide +kernel)) (fun _ _ _ _ _ => pg_name (i := 8) nd rfl (by first | exact Or.inl rfl | exact Or.inr rfl)) (pts_u) pe_u) (ro_Lif rfl (fun d => d) (fun _ => false) (ex_v 4) (by rw [List.length_map]; omega) (fun j d hd => ?_) (fun j d hd hp2 => by cases hp2)))) (by rw [none_of]))) (EX.bo (EO.x (eo_lst ea_nil))) (sh_ints (l := []) (n := 0)) (sh_ints (l := []) (n := 0))) (congrArg D.bl qnil)) hp)
    obtain ⟨x, hx, rfl⟩ := ints_at13 hd
    have := hin x hx
    intro _ _ _ _ _
    refine TX.to (WB.t (wx_or (tx_lt (eb_v 8) (EX.bo ex_int)) (fun hB => (wx_or1 (tx_ge (eb_v 8) (eb_v 1)))))) ?_
    rw [decide_eq_false (by omega), decide_eq_false (by omega)]
    rfl
end
end Lw

end
section
set_option maxHeartbeats 2000000
namespace DL
open PySem PySem.Spec L2
/-! sets of pairs: set(xs), x in s, sorted(s); d.get(k, x) of a dict with numbers -/
abbrev pl (q : Int × Int) : List Int := [q.1, q.2]
theorem pl_inj {p q : Int × Int} (h : pl p = pl q) : p = q := by
  have := h
  simp only [pl, List.cons.injEq, and_true] at this
  exact Prod.ext this.1 this.2
theorem pl_mem {q : Int × Int} {l : List (Int × Int)} : pl q ∈ l.map pl ↔ q ∈ l := by
  rw [List.mem_map]
  exact ⟨fun ⟨p, hp, e⟩ => pl_inj e ▸ hp, fun h => ⟨q, h, rfl⟩⟩
theorem perm_unmap {l m : List (Int × Int)} (h : (l.map pl).Perm (m.map pl)) : l.Perm m := by
  have z := h.map fun k => (k.getD 0 0, k.getD 1 0)
  rw [List.map_map, List.map_map] at z
  have e : ((fun k : List Int => (k.getD 0 0, k.getD 1 0)) ∘ pl) = id := funext fun q => rfl
  rwa [e, List.map_id, List.map_id] at z
/-- each once, in the order of the first -/
def oneL (ps : List (Int × Int)) : List (Int × Int) := ps.foldl addK []
theorem oneL_nd (ps : List (Int × Int)) : (oneL ps).Nodup := addL_nd .nil
theorem oneL_mem {ps : List (Int × Int)} {q : Int × Int} : q ∈ oneL ps ↔ q ∈ ps := by
  unfold oneL
  rw [addL_mem]
  simp
theorem refs_of {K : PySem.W.Frag} {H : Hp} : ∀ {vs : List V} {ps : List (Int × Int)}, RepA K H vs (ps.map dP) → ∃ ks : List (Addr × List Int), vs = ks.map (fun p => V.ref p.1) ∧ ks.map (·.2) = ps.map pl ∧ SB.Tups H ks
  | _, [], .nil => ⟨[], rfl, rfl, nofun⟩
  | _, q :: ps, .cons r t => by
    obtain ⟨ks, h1, h2, h3⟩ := refs_of t
    obtain ⟨u, rfl, hu⟩ := r.tup2
    refine ⟨(u, pl q) :: ks, by rw [h1]; rfl, by rw [List.map_cons, h2]; rfl, fun p hp => ?_⟩
    rcases List.mem_cons.mp hp with rfl | hp
    · exact hu
    · exact h3 p hp
section
variable {X : Cx} {cs : List C} {a b : Expr} {pos p : Pos} {ps : List (Int × Int)} {i j : Int} {k : Nat} {P : Program} {w : World}
theorem ex_set (hr : Room k X.A) (hcl : X.calm = true) (hm : X.mg "set" = none) (ha : EX X cs a (.lst (ps.map dP))) (hl : ps.length ≤ 1000) (hg : Gl X "set" := by rfl) (hs : Pl a := by intro _ _; rfl) : EX X cs (.Call (.Name "set" p) [a] [] pos) (.set X.prog X.w (oneL ps)) := fun He Hb H0 H σ Q s q =>
  wE_of (pe_callTy (SB.cr_set hcl (by have := hr.un; omega)) hg hm (by decide +kernel) pa_w (by decide) (by decide) (hs _ _) rfl) (ea_cons ha ea_nil hs _ _ _ _ _ _ s fun vs H1 H01 g1 r1 => by
    cases r1 with
    | cons r1 r => cases r; cases r1 with
      | @lst l xs _ hl1 r =>
        obtain ⟨ks, e1, e2, h3⟩ := refs_of r
        subst e1
        have hlen : ks.length = ps.length := by have := congrArg List.length e2; simpa using this
        refine ⟨l, ks, rfl, g1.i _ _ hl1, fun p hp => g1.i _ _ (h3 p hp), by omega, fun a L hn nd sub all => ?_⟩
        have hn0 := g1.i.free hn
        refine q _ _ _ (g1.trans (Grow.new g1.i hn)) (.set (L := L) upd_same ?_ fun p hp => same_upd hn0 _ _ (h3 p (sub p hp)))
        refine (List.perm_ext_iff_of_nodup nd ?_).mpr fun x => ?_
        · exact List.Pairwise.map pl (fun p q hne e => hne (pl_inj e)) (oneL_nd ps)
        · have hks : ∀ x, x ∈ L.map (·.2) ↔ x ∈ ks.map (·.2) := fun x => ⟨fun hx => by
            obtain ⟨p, hp, rfl⟩ := List.mem_map.mp hx
            exact List.mem_map.mpr ⟨p, sub p hp, rfl⟩, fun hx => by
            obtain ⟨p, hp, rfl⟩ := List.mem_map.mp hx
            exact all p hp⟩
          rw [hks, e2]
          constructor
          · intro hx
            obtain ⟨p, hp, rfl⟩ := List.mem_map.mp hx
            exact pl_mem.mpr (oneL_mem.mpr hp)
          · intro hx
            obtain ⟨p, hp, rfl⟩ := List.mem_map.mp hx
            exact pl_mem.mpr (oneL_mem.mp hp))
theorem set_at {K : PySem.W.Frag} {H : Hp} {v : V} {ks : List (Int × Int)} (r : Rep K H v (.set P w ks)) : ∃ (a : Addr) (L : List (Addr × List Int)), v = .ref a ∧ H a = some (SB.SetH P w a L) ∧ (L.map (·.2)).Perm (ks.map pl) ∧ SB.Tups H L := by
  cases r with
  | set h p t => exact ⟨_, _, rfl, h, p, t⟩
theorem tx_inZ (hr : Room k X.A) (ha : EB X cs a (.tup [.int i, .int j])) (hb : EB X cs b (.set X.prog X.w ps)) (hm : behindInMarks .In b = false := by rfl) : TX X cs (.Compare a [.In] [b] pos) (decide ((i, j) ∈ ps)) :=
  tx_cmp (SB.or_in (by have := hr.un; omega)) ha hb hm fun x y H Q rx ry q => by
    obtain ⟨t, rfl, ht⟩ := rx.tup2
    obtain ⟨d, L, rfl, hd, pm, hk⟩ := set_at ry
    refine ⟨t, d, [i, j], L, rfl, ht, rfl, hd, hk, ?_⟩
    rw [if_neg (by decide), show decide ([i, j] ∈ L.map (·.2)) = decide ((i, j) ∈ ps) from decide_eq_decide.mpr (pm.mem_iff.trans (pl_mem (q := (i, j))))]
    exact q
theorem tx_ninZ (hr : Room k X.A) (ha : EB X cs a (.tup [.int i, .int j])) (hb : EB X cs b (.set X.prog X.w ps)) (hm : behindInMarks .NotIn b = false := by rfl) : TX X cs (.Compare a [.NotIn] [b] pos) (!decide ((i, j) ∈ ps)) :=
  tx_cmp (SB.or_notin (by have := hr.un; omega)) ha hb hm fun x y H Q rx ry q => by
    obtain ⟨t, rfl, ht⟩ := rx.tup2
    obtain ⟨d, L, rfl, hd, pm, hk⟩ := set_at ry
    refine ⟨t, d, [i, j], L, rfl, ht, rfl, hd, hk, ?_⟩
    rw [if_pos rfl, show decide ([i, j] ∈ L.map (·.2)) = decide ((i, j) ∈ ps) from decide_eq_decide.mpr (pm.mem_iff.trans (pl_mem (q := (i, j))))]
    exact q
/-- sorted(s), s a set of pairs -/
theorem eo_sortedZ (hcl : X.calm = true) (hm : X.mg "sorted" = none) (ha : EB X cs a (.set X.prog X.w ps)) (hg : Gl X "sorted" := by rfl) (hs : Pl a := by intro _ _; rfl) : EO X cs (.Call (.Name "sorted" p) [a] [] pos) ((sortP ps).map dP) := fun He Hb H0 H σ Q s q =>
  wE_of (pe_callB (SB.cr_sorted hcl) hg hm (by decide +kernel) pa_w (by decide) (by decide) (hs _ _) rfl) (eab_cons ha eab_nil hs _ _ _ _ _ _ s fun vs H1 H01 g1 r1 => by
    cases r1 with
    | cons r1 r =>
      cases r
      obtain ⟨d, L, rfl, hd, pm, hk⟩ := set_at r1
      have two : ∀ p ∈ L, ∃ q : Int × Int, p.2 = pl q := fun p hp => by
        obtain ⟨q, _, e⟩ := List.mem_map.mp (pm.mem_iff.mp (List.mem_map.mpr ⟨p, hp, rfl⟩))
        exact ⟨q, e.symm⟩
      have key : ∀ p ∈ L, p.2 = pl (keyP H1 (.ref p.1)) := fun p hp => by
        obtain ⟨q, e⟩ := two p hp
        have h := hk p hp
        rw [e] at h
        rw [e, keyP_of (q := q) h]
      refine ⟨d, L, keyP H1, rfl, hd, fun p hp => ⟨hk p hp, key p hp⟩, fun ys l hsd hpm hn => ?_⟩
      have e : ys.map (keyP H1) = sortP ps := sortP_eq (by
          have z := hpm.map (keyP H1)
          rw [List.map_map] at z
          refine z.trans ?_
          have z2 : (L.map (·.2)) = (L.map (keyP H1 ∘ fun p => V.ref p.1)).map pl := by
            rw [List.map_map]
            exact List.map_congr_left fun p hp => key p hp
          rw [z2] at pm
          exact perm_unmap pm) (by
        rw [List.pairwise_map]
        refine List.Pairwise.imp (fun {x y} h => ?_) hsd
        have z := SrtO.lexB_no.mp h
        rw [leP_iff]
        omega)
      have g2 := g1.trans (Grow.tups g1.i)
      refine q l _ _ _ (g2.trans (Grow.own g2.i hn)) (g1.h.free hn) (g2.i.free hn) upd_same ?_
      rw [← e]
      exact pairs_rep fun y hy => by
        obtain ⟨p, hp, rfl⟩ := List.mem_map.mp (hpm.mem_iff.mp hy)
        refine ⟨p.1, rfl, tups_at g1.i ?_⟩
        have h := hk p hp
        rw [key p hp] at h
        exact h)
end
end DL

end
section
set_option maxHeartbeats 2000000
namespace DL
open PySem PySem.Spec L2
/-! d = {}; for x, y in pairs: d.setdefault(x, []).append(y) -/
def headsL (ps : List (Int × Int)) (t : Int) : List Int := (ps.filter fun p => decide (p.1 = t)).map (·.2)
theorem headsL_snoc (ps : List (Int × Int)) (q : Int × Int) (t : Int) : headsL (ps ++ [q]) t = headsL ps t ++ (if q.1 = t then [q.2] else []) := by
  unfold headsL
  rw [List.filter_append, List.map_append]
  congr 1
  by_cases h : q.1 = t <;> simp [h]
/-- what d.get(t, x) finds -/
def lkI (kvs : List (Int × D)) (t : Int) : Option D := (kvs.find? fun p => decide (p.1 = t)).map (·.2)
theorem RepG.get {K : PySem.W.Frag} {H : Hp} (t : Int) : ∀ {vs : List (Key × V)} {ds : List (Int × D)}, RepG K H vs ds → (valV vs (Sum.inl t) = none ∧ lkI ds t = none) ∨ ∃ v d, valV vs (Sum.inl t) = some v ∧ lkI ds t = some d ∧ Rep K H v d
  | _, _, .nil => .inl ⟨rfl, rfl⟩
  | _, _, .cons (i := i) (v := v) (vs := vs) (d := d) (ds := ds) r s => by
    by_cases h : i = t
    · subst h
      exact .inr ⟨v, d, by unfold valV; simp, by unfold lkI; simp, r⟩
    · have e1 : valV ((Sum.inl i, v) :: vs) (Sum.inl t) = valV vs (Sum.inl t) := by
        unfold valV
        rw [List.find?_cons_of_neg (by simpa using h)]
      have e2 : lkI ((i, d) :: ds) t = lkI ds t := by
        unfold lkI
        rw [List.find?_cons_of_neg (by simpa using h)]
      rw [e1, e2]
      exact RepG.get t s
section
variable {X : Cx} {cs : List C} {o e f : Expr} {apos cpos : Pos} {kvs : List (Int × D)} {i : Int} {k : Nat} {dd : D}
theorem ex_getI (hr : Room k X.A) (ho : EX X cs o (.dki kvs)) (he : EB X cs e (.int i)) (hf : EX X cs f dd) (m : M2 X o "get" apos e f cpos := by exact ⟨rfl, rfl, rfl, rfl⟩) : EX X cs (.Call (.Attribute o "get" apos) [e, f] [] cpos) ((lkI kvs i).getD dd) := fun He Hb H0 H σ Q s q =>
  wE_of (pe_dget2 (hu_of hr) pe_w pe_w pe_w m) (ho _ _ _ _ _ _ s fun x H1 H01 g1 r1 => by
    cases r1 with
    | @dki a vs _ hl r =>
      refine ⟨a, rfl, .inl ⟨vs, .inl (g1.i _ _ hl)⟩, he _ _ _ _ _ _ (s.grow g1) fun y H2 H02 g2 r2 => hf _ _ _ _ _ _ ((s.grow g1).grow g2) fun z H3 H03 g3 r3 => ?_⟩
      cases r2
      refine ⟨_, DGet.k (k := Sum.inl i) (g3.h _ _ (g2.h _ _ (g1.i _ _ hl))), q _ _ _ ((g1.trans g2).trans g3) ?_⟩
      rcases r.get i with ⟨h1, h2⟩ | ⟨v, d', h1, h2, h3⟩
      · rw [h1, h2]; exact r3
      · rw [h1, h2]; exact h3.mono (g2.b.trans g3.b))
end
/-! the loop -/
abbrev GE := Int × Addr × List Int
/-- the dict at b with its lists, all new beside H and G -/
structure Hds (G H : Hp) (b : Addr) (ps : List (Int × Int)) (es : List GE) (H' : Hp) : Prop where
  old : Same G H'
  old2 : Same H H'
  nb : G b = none ∧ H b = none
  at_ : H' b = some (.dK (es.map fun e => (Sum.inl e.1, V.ref e.2.1)))
  ls : ∀ e ∈ es, G e.2.1 = none ∧ H e.2.1 = none ∧ e.2.1 ≠ b ∧ H' e.2.1 = some (.lst (e.2.2.map V.int)) ∧ e.2.2 = headsL ps e.1
  keys : (es.map (·.1)).Nodup
  ads : (es.map (·.2.1)).Nodup
  all : ∀ p ∈ ps, ∃ e ∈ es, e.1 = p.1
  len : es.length ≤ ps.length
theorem nodup_inj {α β : Type} {f : α → β} : ∀ {l : List α}, (l.map f).Nodup → ∀ x ∈ l, ∀ y ∈ l, f x = f y → x = y
  | [], _, x, hx, _, _, _ => absurd hx (by simp)
  | a :: l, h, x, hx, y, hy, e => by
    rw [List.map_cons, List.nodup_cons] at h
    rcases List.mem_cons.mp hx with e1 | hx <;> rcases List.mem_cons.mp hy with e2 | hy
    · rw [e1, e2]
    · exact absurd (List.mem_map.mpr ⟨y, hy, by rw [← e, e1]⟩) h.1
    · exact absurd (List.mem_map.mpr ⟨x, hx, by rw [e, e2]⟩) h.1
    · exact nodup_inj h.2 x hx y hy e
section
variable {G H H' : Hp} {b : Addr} {ps : List (Int × Int)} {es : List GE}
theorem valG (t : Int) : ∀ es : List GE, valV (es.map fun e => ((Sum.inl e.1 : Key), V.ref e.2.1)) (Sum.inl t) = (es.find? fun e => decide (e.1 = t)).map fun e => V.ref e.2.1
  | [] => rfl
  | e :: es => by
    have ih := valG t es
    unfold valV at ih ⊢
    by_cases h : e.1 = t
    · simp [h]
    · rw [List.map_cons, List.find?_cons_of_neg (by simpa using h), List.find?_cons_of_neg (by simpa using h)]
      exact ih
/-- a new list laid for t, with h in it -/
theorem Hds.new (g : Hds G H b ps es H') {p : Addr} (hp : H' p = none) {t h : Int} (hno : ∀ e ∈ es, e.1 ≠ t) : Hds G H b (ps ++ [(t, h)]) (es ++ [(t, p, [h])]) (upd (upd (upd H' p (.lst [])) b (.dK ((es ++ [(t, p, [h])]).map fun e => (Sum.inl e.1, V.ref e.2.1)))) p (.lst [V.int h])) := by
  have hpb : p ≠ b := fun z => by rw [z, g.at_] at hp; cases hp
  have hGp := g.old.free hp
  have hHp := g.old2.free hp
  have far : ∀ a, a ≠ p → a ≠ b → upd (upd (upd H' p (.lst [])) b (.dK ((es ++ [(t, p, [h])]).map fun e => ((Sum.inl e.1 : Key), V.ref e.2.1)))) p (.lst [V.int h]) a = H' a := fun a h1 h2 => by
    rw [upd_ne h1, upd_ne h2, upd_ne h1]
  refine ⟨fun a u e => ?_, fun a u e => ?_, g.nb, ?_, fun e he => ?_, ?_, ?_, fun q hq => ?_, by rw [List.length_append, List.length_append]; exact Nat.add_le_add_right g.len 1⟩
  · rw [far a (ne_of_none e hGp) (ne_of_none e g.nb.1)]; exact g.old a u e
  · rw [far a (ne_of_none e hHp) (ne_of_none e g.nb.2)]; exact g.old2 a u e
  · rw [upd_ne hpb.symm]; exact upd_same
  · rcases List.mem_append.mp he with he | he
    · obtain ⟨a1, a2, a3, a4, a5⟩ := g.ls e he
      have hne : e.2.1 ≠ p := fun z => by rw [z, hp] at a4; cases a4
      refine ⟨a1, a2, a3, by rw [far _ hne a3]; exact a4, ?_⟩
      rw [headsL_snoc, if_neg (fun z => hno e he z.symm), List.append_nil, ← a5]
    · cases List.mem_singleton.mp he
      refine ⟨hGp, hHp, hpb, upd_same, ?_⟩
      rw [headsL_snoc, if_pos rfl]
      have : headsL ps t = [] := by
        unfold headsL
        rw [List.filter_eq_nil_iff.mpr fun q hq => ?_]
        · rfl
        · obtain ⟨e, he2, e1⟩ := g.all q hq
          simpa [← e1] using hno e he2
      rw [this]
      rfl
  · rw [List.map_append, List.nodup_append]
    refine ⟨g.keys, by simp, fun a ha c hc => ?_⟩
    obtain ⟨e, he2, rfl⟩ := List.mem_map.mp ha
    rw [List.mem_singleton.mp hc]
    exact hno e he2
  · rw [List.map_append, List.nodup_append]
    refine ⟨g.ads, by simp, fun a ha c hc => ?_⟩
    obtain ⟨e, he2, rfl⟩ := List.mem_map.mp ha
    rw [List.mem_singleton.mp hc]
    intro z
    have a4 := (g.ls e he2).2.2.2.1
    rw [z, hp] at a4
    cases a4
  · rcases List.mem_append.mp hq with hq | hq
    · obtain ⟨e, he2, e1⟩ := g.all q hq
      exact ⟨e, List.mem_append_left _ he2, e1⟩
    · cases List.mem_singleton.mp hq
      exact ⟨_, List.mem_append_right _ (List.mem_singleton.mpr rfl), rfl⟩
/-- h put at the end of the list of t (a list p laid beside) -/
theorem Hds.more (g : Hds G H b ps es H') {p : Addr} (hp : H' p = none) {e0 : GE} (he0 : e0 ∈ es) (h : Int) :
    Hds G H b (ps ++ [(e0.1, h)]) (es.map fun e => if e.1 = e0.1 then (e.1, e.2.1, e.2.2 ++ [h]) else e) (upd (upd H' p (.lst [])) e0.2.1 (.lst ((e0.2.2 ++ [h]).map V.int))) := by
  obtain ⟨b1, b2, b3, b4, b5⟩ := g.ls e0 he0
  have hGp := g.old.free hp
  have hHp := g.old2.free hp
  have hpb : b ≠ p := fun z => by rw [← z, g.at_] at hp; cases hp
  have far : ∀ a, a ≠ p → a ≠ e0.2.1 → upd (upd H' p (.lst [])) e0.2.1 (.lst ((e0.2.2 ++ [h]).map V.int)) a = H' a := fun a h1 h2 => by rw [upd_ne h2, upd_ne h1]
  have e1 : (es.map fun e => if e.1 = e0.1 then (e.1, e.2.1, e.2.2 ++ [h]) else e).map (·.1) = es.map (·.1) := by
    rw [List.map_map]
    exact List.map_congr_left fun e _ => by show (if _ then _ else _ : GE).1 = _; split <;> rfl
  have e2 : (es.map fun e => if e.1 = e0.1 then (e.1, e.2.1, e.2.2 ++ [h]) else e).map (·.2.1) = es.map (·.2.1) := by
    rw [List.map_map]
    exact List.map_congr_left fun e _ => by show (if _ then _ else _ : GE).2.1 = _; split <;> rfl
  have e3 : (es.map fun e => if e.1 = e0.1 then (e.1, e.2.1, e.2.2 ++ [h]) else e).map (fun e => ((Sum.inl e.1 : Key), V.ref e.2.1)) = es.map fun e => (Sum.inl e.1, V.ref e.2.1) := by
    rw [List.map_map]
    exact List.map_congr_left fun e _ => by show ((Sum.inl (if _ then _ else _ : GE).1 : Key), V.ref (if _ then _ else _ : GE).2.1) = _; split <;> rfl
  refine ⟨fun a u e => ?_, fun a u e => ?_, g.nb, ?_, fun e he => ?_, by rw [e1]; exact g.keys, by rw [e2]; exact g.ads, fun q hq => ?_, by rw [List.length_map, List.length_append]; exact Nat.le_trans g.len (Nat.le_add_right _ _)⟩
  · rw [far a (ne_of_none e hGp) (ne_of_none e b1)]; exact g.old a u e
  · rw [far a (ne_of_none e hHp) (ne_of_none e b2)]; exact g.old2 a u e
  · rw [far b hpb b3.symm, e3]; exact g.at_
  · obtain ⟨c, hc, rfl⟩ := List.mem_map.mp he
    obtain ⟨a1, a2, a3, a4, a5⟩ := g.ls c hc
    by_cases z : c.1 = e0.1
    · obtain rfl := nodup_inj g.keys c hc e0 he0 z
      rw [if_pos rfl]
      refine ⟨a1, a2, a3, upd_same, ?_⟩
      rw [headsL_snoc, if_pos rfl, ← a5]
    · rw [if_neg z]
      have hne : c.2.1 ≠ e0.2.1 := fun y => z (congrArg Prod.fst (nodup_inj g.ads c hc e0 he0 y))
      have hnp : c.2.1 ≠ p := fun y => by rw [y, hp] at a4; cases a4
      refine ⟨a1, a2, a3, by rw [far _ hnp hne]; exact a4, ?_⟩
      rw [headsL_snoc, if_neg (fun y => z y.symm), List.append_nil, ← a5]
  · rcases List.mem_append.mp hq with hq | hq
    · obtain ⟨c, hc, ec⟩ := g.all q hq
      refine ⟨_, List.mem_map.mpr ⟨c, hc, rfl⟩, ?_⟩
      rw [← ec]
      split <;> rfl
    · cases List.mem_singleton.mp hq
      refine ⟨_, List.mem_map.mpr ⟨e0, he0, rfl⟩, ?_⟩
      rw [if_pos rfl]
/-- all laid aside -/
theorem Hds.done {K : PySem.W.Frag} {H0 : Hp} (g : Hds G H b ps es H') (h0 : Same H0 G) (hn : ∀ a o, G a = some o → H0 a = some o ∨ H a = none ∨ ∃ xs, o = .tup xs) :
    ∃ H0', Grow H0 H H0' H' ∧ Same G H0' ∧ Rep K H0' (.ref b) (.dki (es.map fun e => (e.1, .lst (e.2.2.map D.int)))) := by
  have hin : ∀ a, a ∈ es.map (·.2.1) → G a = none ∧ H a = none := fun a ha => by
    obtain ⟨e, he, rfl⟩ := List.mem_map.mp ha
    exact ⟨(g.ls e he).1, (g.ls e he).2.1⟩
  let F : Hp := fun a => if a = b ∨ a ∈ es.map (·.2.1) then H' a else G a
  have fin : ∀ a, (a = b ∨ a ∈ es.map (·.2.1)) → F a = H' a := fun a ha => if_pos ha
  have fout : ∀ a, ¬ (a = b ∨ a ∈ es.map (·.2.1)) → F a = G a := fun a ha => if_neg ha
  have gf : Same G F := fun a u e => by
    rw [fout a]
    · exact e
    · rintro (rfl | z)
      · rw [g.nb.1] at e; cases e
      · rw [(hin a z).1] at e; cases e
  have fh : Same F H' := fun a u e => by
    by_cases c : a = b ∨ a ∈ es.map (·.2.1)
    · rw [fin a c] at e; exact e
    · rw [fout a c] at e; exact g.old a u e
  refine ⟨F, ⟨h0.trans gf, fh, g.old2, fun a o e => ?_⟩, gf, .dki (xs := es.map fun e => (Sum.inl e.1, V.ref e.2.1)) ((fin b (.inl rfl)).trans g.at_) ?_⟩
  · by_cases c : a = b ∨ a ∈ es.map (·.2.1)
    · refine .inr (.inl ?_)
      rcases c with rfl | c
      · exact g.nb.2
      · exact (hin a c).2
    · rw [fout a c] at e
      exact hn a o e
  · have key : ∀ l : List GE, (∀ e ∈ l, e ∈ es) → RepG K F (l.map fun e => ((Sum.inl e.1 : Key), V.ref e.2.1)) (l.map fun e => (e.1, D.lst (e.2.2.map D.int))) := by
      intro l
      induction l with
      | nil => exact fun _ => .nil
      | cons e l ih =>
        intro hl
        have he := hl e List.mem_cons_self
        exact .cons (.lst (xs := e.2.2.map V.int) ((fin _ (.inr (List.mem_map.mpr ⟨e, he, rfl⟩))).trans (g.ls e he).2.2.2.1) RepA.ints) (ih fun x hx => hl x (List.mem_cons_of_mem _ hx))
    exact key es fun _ h => h
end
/-- what is told of the dict -/
def GsOk (ps : List (Int × Int)) (kvs : List (Int × D)) : Prop := ∀ t, (lkI kvs t).getD (.lst []) = .lst ((headsL ps t).map D.int)
theorem Hds.says {G H H' : Hp} {b : Addr} {ps : List (Int × Int)} {es : List GE} (g : Hds G H b ps es H') : GsOk ps (es.map fun e => (e.1, .lst (e.2.2.map D.int))) := fun t => by
  have key : ∀ l : List GE, lkI (l.map fun e => (e.1, D.lst (e.2.2.map D.int))) t = (l.find? fun e => decide (e.1 = t)).map fun e => D.lst (e.2.2.map D.int) := by
    intro l
    induction l with
    | nil => rfl
    | cons e l ih =>
      unfold lkI at ih ⊢
      by_cases h : e.1 = t
      · simp [h]
      · rw [List.map_cons, List.find?_cons_of_neg (by simpa using h), List.find?_cons_of_neg (by simpa using h)]
        exact ih
  rw [key]
  cases h : es.find? fun e => decide (e.1 = t) with
  | none =>
    have : headsL ps t = [] := by
      unfold headsL
      rw [List.filter_eq_nil_iff.mpr fun q hq => ?_]
      · rfl
      · obtain ⟨e, he, e1⟩ := g.all q hq
        rw [← e1]
        exact List.find?_eq_none.mp h e he
    rw [this]
    rfl
  | some e =>
    have h1 := List.mem_of_find?_eq_some h
    have h2 : e.1 = t := by simpa using List.find?_some h
    show D.lst (e.2.2.map D.int) = _
    rw [(g.ls e h1).2.2.2.2, h2]
end DL

end
section
set_option maxHeartbeats 2000000
namespace DL
open PySem PySem.Spec L2
theorem SR.anyV {K : PySem.W.Frag} {He Hb H0 H : Hp} {σ : St} {cs : List C} (s : SR K He Hb H0 H σ cs) (i : Nat) (x : Option V) : SR K He Hb H0 H (σ.set i x) (cs.set i .any) := by
  have z := s.none i
  have hi : ∀ {c : C}, (cs.set i .any)[i]? = some c → c = .any := fun {c} e => by
    have hlt : i < cs.length := by
      have := (List.getElem?_eq_some_iff.mp e).1
      simpa using this
    rw [List.getElem?_set_self hlt] at e
    cases e
    rfl
  have other : ∀ {j : Nat}, i ≠ j → (σ.set i x)[j]? = (σ.set i Option.none)[j]? := fun {j} h => by rw [List.getElem?_set_ne h, List.getElem?_set_ne h]
  refine ⟨z.gr, by rw [List.length_set, List.length_set, s.len], fun j c e => ?_, fun j c l e o q => ?_, fun j k c c' l ne e e' o o' q q' => ?_⟩
  · by_cases h : i = j
    · subst h
      rw [hi e]
      exact True.intro
    · rw [other h]
      exact z.sl j c e
  · by_cases h : i = j
    · subst h
      rw [hi e] at o
      cases o
    · rw [other h] at q
      exact z.own j c l e o q
  · by_cases h : i = j
    · subst h
      rw [hi e] at o
      cases o
    · by_cases h2 : i = k
      · subst h2
        rw [hi e'] at o'
        cases o'
      · rw [other h] at q
        rw [other h2] at q'
        exact z.dis j k c c' l ne e e' o o' q q'
theorem set_back {α : Type} {l : List α} {i : Nat} {x : α} (h : l[i]? = some x) : l.set i x = l := by
  obtain ⟨hi, e⟩ := List.getElem?_eq_some_iff.mp h
  rw [← e]
  exact List.set_getElem_self hi
section
variable {X : Cx} {cs : List C} {it : Expr} {sts : List Stmt} {pos px py pt ph pd pp p1 p2 p3 p4 p5 p6 p7 p8 p9 : Pos} {F : DE} {ps : List (Int × Int)}
/-- h = {}; for x, y in pairs: h.setdefault(x, []).append(y) -/
theorem heads_w (ih ix iy : Nat) {h x y : Str} {k0 : Nat} (hcl : X.calm = true) (hN : X.N.Nodup) (hp : PassesOwn (model X.prog X.w) X.A X.env X.xe) (hit : EX X (cs.set ih .any) it (.lst (ps.map dP))) (hl : ps.length ≤ 100000)
    {He Hb H0 H : Hp} {σ : St} {E : Ends} (s : SR X.K He Hb H0 H σ cs) (rest : ∀ kvs H0' H' σ', GsOk ps kvs → Same H0 H0' → SR X.K He Hb H0' H' σ' (((cs.set ih (.sh (.dki kvs))).set ix .any).set iy .any) → wSs X sts E σ' H')
    (nd : ih ≠ ix ∧ ih ≠ iy ∧ ix ≠ iy := by decide) (lt : ih < cs.length ∧ ix < cs.length ∧ iy < cs.length := by exact ⟨Nat.le_of_ble_eq_true rfl, Nat.le_of_ble_eq_true rfl, Nat.le_of_ble_eq_true rfl⟩)
    (hh : X.N[ih]? = some h := by rfl) (hi : X.N[ix]? = some x := by rfl) (hk : X.N[iy]? = some y := by rfl)
    (hs0 : ∀ t : TE, PE X (.Dict [] [] pd) t → PS X (.Assign [.Name h ph] (.Dict [] [] pd) pp) (tAsg t (gName ih)) := by intro t z; exact ps_set (by assumption) rfl (by first | exact Or.inl rfl | exact Or.inr rfl) z)
    (hfo : ∀ x, foldedSetIterable it X.env x = pure x := by intro _; rfl)
    (hg : ∀ (t : TGs), PGs X [.Name x px, .Name y py] t → PG X (.Tuple [.Name x px, .Name y py] k0 pt) (gTup X.K 2 t) := by intro t h; exact pg_tup rfl h)
    (hg2 : PGs X [.Name x px, .Name y py] (gCons (gName ix) (gCons (gName iy) gNil)) := by exact pgs_cons (pg_name (by assumption) rfl (by first | exact Or.inl rfl | exact Or.inr rfl)) (pgs_cons (pg_name (by assumption) rfl (by first | exact Or.inl rfl | exact Or.inr rfl)) pgs_nil))
    (hbd : PS X (.Expr (.Call (.Attribute (.Call (.Attribute (.Name h p1) "setdefault" p2) [.Name x p3, .List [] p4] [] p5) "append" p6) [.Name y p7] [] p8) p9) (tDrop (tBM X.K "list" rAppend (tDSetd (tVar ih) (tVar ix) (tLst tNil)) (tCons (tVar iy) tNil))) := by
      exact ps_expr (pe_bm PySem.F.plainAttrs_list PySem.F.slot_list_append PySem.F.type_list_append mt_append (pe_dsetd (pv _) (pv _) (pe_lst pa_nil) ⟨rfl, rfl, rfl, rfl⟩) (pa_cons (pv _) pa_nil))) :
    wSs X (.Assign [.Name h ph] (.Dict [] [] pd) pp :: .For (.Tuple [.Name x px, .Name y py] k0 pt) it [.Expr (.Call (.Attribute (.Call (.Attribute (.Name h p1) "setdefault" p2) [.Name x p3, .List [] p4] [] p5) "append" p6) [.Name y p7] [] p8) p9] [] pos :: sts) E σ H := by
  refine wSs_of (pss_cons (hs0 _ pe_dnewK) (pss_cons (ps_for hp hcl (pi_list pe_w) (hg _ hg2) (pss_one hbd) hfo) pss_w)) ?_
  intro b hb
  have hb0 := s.i.free hb
  have g0 : Grow H0 H H0 (upd H b (.dK [])) := Grow.own s.i hb
  have s0 := (s.grow g0).anyV ih (some (V.ref b))
  refine hit _ _ _ _ _ _ s0 fun v G1 G g1 r => ?_
  cases r with
  | @lst a vs _ hla r =>
    have hGb : G b = none := not_tup g1 hb0 upd_same (fun xs z => by cases z)
    have hG1b : G1 b = some (.dK []) := g1.h _ _ upd_same
    have hHG1 : Same H G1 := fun c u e => g1.h _ _ (by rw [upd_ne (ne_of_none e hb)]; exact e)
    have hlen := s.len
    let Pv : Nat → St → Hp → Prop := fun j σ' H' => ∃ x y es, σ' = ((σ.set ih (some (.ref b))).set ix x).set iy y ∧ Hds G H b (ps.take j) es H'
    refine ⟨a, rfl, ⟨vs, SqL.of (g1.i _ _ hla)⟩, for_list (K := X.K) (a := a) (xs := vs) Pv ?_ (fun j σ' H' _ ⟨_, _, _, _, z⟩ => SqL.of (z.old _ _ hla)) (fun j y0 σ' H' hj ⟨x', y', es, eσ, z⟩ => ?_) (fun σ' H' ⟨x', y', es, eσ, z⟩ => ?_)⟩
    · have hx : ∃ x, (σ.set ih (some (.ref b)))[ix]? = some x := ⟨_, List.getElem?_eq_getElem (by rw [List.length_set, hlen]; exact lt.2.1)⟩
      obtain ⟨x', ex⟩ := hx
      have hy : ∃ y, (σ.set ih (some (.ref b)))[iy]? = some y := ⟨_, List.getElem?_eq_getElem (by rw [List.length_set, hlen]; exact lt.2.2)⟩
      obtain ⟨y', ey⟩ := hy
      refine ⟨x', y', [], by rw [set_back ex, set_back ey], ?_⟩
      exact ⟨g1.i, hHG1, ⟨hGb, hb⟩, hG1b, nofun, .nil, .nil, fun p hp => by simp at hp, Nat.zero_le _⟩
    · obtain ⟨d, hd', rd⟩ := r.get hj
      obtain ⟨t, ht, et⟩ := map_at hd'
      subst et
      obtain ⟨u, rfl, hu⟩ := rd.tup2
      have hs : ps.take (j + 1) = ps.take j ++ [(t.1, t.2)] := by rw [List.take_add_one, ht]; rfl
      refine ⟨_, _, rfl, SqT.of (z.old _ _ hu), rfl, _, _, rfl, _, _, rfl, rfl, ?_⟩
      have eσ2 : (σ'.set ix (some (.int t.1))).set iy (some (.int t.2)) = ((σ.set ih (some (.ref b))).set ix (some (.int t.1))).set iy (some (.int t.2)) := by
        rw [eσ, List.set_comm _ _ nd.2.2.symm, List.set_set, List.set_set]
      show tDrop _ _ ((σ'.set ix (some (.int t.1))).set iy (some (.int t.2))) _
      rw [eσ2]
      have v1 : (((σ.set ih (some (.ref b))).set ix (some (.int t.1))).set iy (some (.int t.2)))[ih]? = some (some (.ref b)) := by
        rw [List.getElem?_set_ne nd.2.1.symm, List.getElem?_set_ne nd.1.symm, List.getElem?_set_self (by rw [hlen]; exact lt.1)]
      have v2 : (((σ.set ih (some (.ref b))).set ix (some (.int t.1))).set iy (some (.int t.2)))[ix]? = some (some (.int t.1)) := by
        rw [List.getElem?_set_ne nd.2.2.symm, List.getElem?_set_self (by rw [List.length_set, hlen]; exact lt.2.1)]
      have v3 : (((σ.set ih (some (.ref b))).set ix (some (.int t.1))).set iy (some (.int t.2)))[iy]? = some (some (.int t.2)) := by
        rw [List.getElem?_set_self (by rw [List.length_set, List.length_set, hlen]; exact lt.2.2)]
      have hsz : es.length < 100001 := by
        have := z.len
        rw [List.length_take] at this
        omega
      refine ⟨_, v1, b, rfl, .inl ⟨_, .inl z.at_⟩, _, v2, by show 0 ≤ _; decide, fun p hp => ?_⟩
      have hpb : b ≠ p := fun e => by rw [← e, z.at_] at hp; cases hp
      refine ⟨_, Sum.inl t.1, (upd_ne hpb).trans z.at_, rfl, by rw [List.length_map]; exact Nat.lt_of_lt_of_le hsz (by decide), fun v hv => ?_, fun hv => ?_⟩
      · rw [valG] at hv
        obtain ⟨e0, hf, rfl⟩ := Option.map_eq_some_iff.mp hv
        have hm0 := List.mem_of_find?_eq_some hf
        have hk0 : e0.1 = t.1 := by simpa using List.find?_some hf
        obtain ⟨b1, b2, b3, b4, b5⟩ := z.ls e0 hm0
        have hne : e0.2.1 ≠ p := fun y => by rw [y, hp] at b4; cases b4
        have hl0 := (show upd H' p (.lst []) e0.2.1 = H' e0.2.1 from upd_ne hne).trans b4
        refine ⟨.inl ⟨rfl, _, SqL.of hl0⟩, _, v3, e0.2.1, _, _, rfl, rfl, hl0, ?_, ?_⟩
        · rw [List.length_map, b5]
          unfold headsL
          rw [List.length_map]
          have h1 := List.length_filter_le (fun p => decide (p.1 = e0.1)) (ps.take j)
          rw [List.length_take] at h1
          exact Nat.lt_of_le_of_lt (Nat.le_trans h1 (Nat.le_trans (Nat.min_le_right _ _) hl)) (by decide)
        · refine ⟨_, _, es.map fun e => if e.1 = e0.1 then (e.1, e.2.1, e.2.2 ++ [t.2]) else e, rfl, ?_⟩
          have z2 := z.more hp hm0 t.2
          rw [show ((e0.1, t.2) : Int × Int) = (t.1, t.2) by rw [hk0]] at z2
          rw [hs, show e0.2.2.map V.int ++ [V.int t.2] = (e0.2.2 ++ [t.2]).map V.int by rw [List.map_append]; rfl]
          exact z2
      · rw [valG] at hv
        have hno : ∀ e ∈ es, e.1 ≠ t.1 := fun e he => by
          have := List.find?_eq_none.mp (Option.map_eq_none_iff.mp hv) e he
          simpa using this
        have hput : putK (es.map fun e => ((Sum.inl e.1 : Key), V.ref e.2.1)) (Sum.inl t.1) (V.ref p) = (es ++ [(t.1, p, [t.2])]).map fun e => (Sum.inl e.1, V.ref e.2.1) := by
          unfold putK
          rw [if_neg, List.map_append]
          · rfl
          · intro y
            obtain ⟨kv, hkv, e⟩ := List.any_eq_true.mp y
            obtain ⟨e', he', rfl⟩ := List.mem_map.mp hkv
            have := of_decide_eq_true e
            exact hno e' he' (Sum.inl.inj this)
        rw [hput]
        have hlp : upd (upd H' p (.lst [])) b (.dK ((es ++ [(t.1, p, [t.2])]).map fun e => ((Sum.inl e.1 : Key), V.ref e.2.1))) p = some (.lst []) := by
          rw [upd_ne hpb.symm]; exact upd_same
        refine ⟨.inl ⟨rfl, _, SqL.of hlp⟩, _, v3, p, _, _, rfl, rfl, hlp, by decide, ?_⟩
        refine ⟨_, _, es ++ [(t.1, p, [t.2])], rfl, ?_⟩
        rw [hs]
        exact z.new hp hno
    · rw [r.len, List.length_map, List.take_length] at z
      obtain ⟨F0, gF, sF, rF⟩ := z.done (g0.b.trans g1.b) (fun c o e => by
        rcases g1.n c o e with y | y | y
        · exact .inl y
        · refine .inr (.inl ?_)
          cases hc : H c with
          | none => rfl
          | some u => rw [upd_ne (ne_of_none hc hb), hc] at y; cases y
        · exact .inr (.inr y))
      have sF' := (((s.grow gF).set (i := ih) rF).anyV ix x').anyV iy y'
      rw [← eσ] at sF'
      exact rest _ _ _ _ z.says gF.b sF'
end
end DL

end
section
set_option maxHeartbeats 2000000
namespace DL
open PySem PySem.Spec L2
/-! [elt for x, y in pairs for z in .. if c] -/
theorem wipe3 {σ : St} {i k j : Nat} {x y : Option V} (h1 : i ≠ k) (h2 : i ≠ j) (h3 : k ≠ j) : wipe (((wipe σ [i, k, j]).set i x).set k y) [i, k, j] = wipe σ [i, k, j] := by
  show ((((((((σ.set j none).set k none).set i none).set i x).set k y).set j none).set k none).set i none) = ((σ.set j none).set k none).set i none
  apply List.ext_getElem?
  intro m
  simp only [List.getElem?_set, List.length_set]
  by_cases a : i = m <;> by_cases b : k = m <;> by_cases c : j = m <;> simp [a, b, c]
section
variable {X : Cx} {cs : List C} {c : Expr} {i j k : Nat} {sc : Scope} {elt iter it0 : Expr} {K : PySem.W.Frag}
/-- the slots of an outer turn -/
abbrev ocU (cs : List C) (i k j : Nat) (p : Int × Int) : List C := ((cs.set j .any).set i (.sh (.int p.1))).set k (.sh (.int p.2))
theorem sr_outU {He Hb H0 H : Hp} {σ : St} (s : SR K He Hb H0 H σ cs) (hik : i ≠ k) (p : Int × Int) : SR K He Hb H0 H (((wipe σ [i, k, j]).set i (some (.int p.1))).set k (some (.int p.2))) (ocU cs i k j p) := by
  have z := ((((s.none j).none k).none i).set (i := i) (v := .int p.1) (d := .int p.1) (.int _)).set (i := k) (v := .int p.2) (d := .int p.2) (.int _)
  have e : (((((cs.set j C.any).set k C.any).set i C.any).set i (C.sh (.int p.1))).set k (C.sh (.int p.2))) = ocU cs i k j p := by
    rw [List.set_set, List.set_comm _ _ hik.symm, List.set_set]
  rw [e] at z
  exact z
theorem ro_LUL (hK : X.K = K) {ps : List (Int × Int)} {B : Nat} (inner : Int × Int → List D) (fo : Int × Int → D → D) (fp : Int × Int → D → Bool) (h0 : EX X cs it0 (.lst (ps.map dP))) (hik : i ≠ k) (hij : i ≠ j) (hkj : k ≠ j) (hB : ∀ p ∈ ps, (inner p).length ≤ B) (hsz : (ps.length + 1) * B < 1000000)
    (hit : ∀ p ∈ ps, BX X sc fun Y => EX Y (ocU cs i k j p) iter (.lst (inner p)))
    (ht : ∀ p ∈ ps, ∀ (y : Nat) (d : D), (inner p)[y]? = some d → BX X sc fun Y => TX Y ((ocU cs i k j p).set j (.sh d)) c (fp p d))
    (he : ∀ p ∈ ps, ∀ (y : Nat) (d : D), (inner p)[y]? = some d → fp p d = true → BX X sc fun Y => EX Y ((ocU cs i k j p).set j (.sh d)) elt (fo p d)) :
    RO K cs (tLc2 (iList K (wE X it0)) (gTup K 2 (gCons (gName i) (gCons (gName k) gNil))) tYes (iList K (uE X sc iter)) (gName j) (uT X sc c) (uE X sc elt) [i, k, j] [j]) (ps.flatMap fun p => ((inner p).filter (fp p)).map (fo p)) := fun He Hb H0 H σ Q s q => by
  subst hK
  refine h0 _ _ _ _ _ _ s fun v H1 H01 g r0 => ?_
  cases r0 with
  | @lst a us _ hla r0 =>
    refine ⟨a, rfl, ⟨us, SqL.of (g.i _ _ hla)⟩, fun L hn => ?_⟩
    have s1 := s.grow g
    have hul : us.length = ps.length := by rw [r0.len, List.length_map]
    let out : Nat → List D := fun n => (ps.take n).flatMap fun p => ((inner p).filter (fp p)).map (fo p)
    have outS : ∀ n p, ps[n]? = some p → out (n + 1) = out n ++ ((inner p).filter (fp p)).map (fo p) := fun n p hp => by
      show (ps.take (n + 1)).flatMap _ = _
      rw [List.take_add_one, hp, List.flatMap_append]
      simp [out]
    have outL : ∀ n, n ≤ ps.length → (out n).length ≤ n * B := by
      intro n
      induction n with
      | zero => intro _; simp [out]
      | succ n ih =>
        intro hn'
        have hp := List.getElem?_eq_getElem (l := ps) (i := n) (by omega)
        rw [outS n _ hp, List.length_append, List.length_map, Nat.succ_mul]
        have h1 := ih (by omega)
        have h2 := List.length_filter_le (fp (ps[n]'(by omega))) (inner (ps[n]'(by omega)))
        have h3 := hB _ (List.mem_of_getElem? hp)
        omega
    refine ⟨fun n m H' => m = us.length - n ∧ n ≤ us.length ∧ Mk1 X.K H01 H1 L (out n) H', ⟨us.length, by simp, Nat.zero_le _, by exact Mk1.start g.i hn⟩, ?_⟩
    rintro n m H' ⟨rfl, hnl, mk⟩
    obtain ⟨H0', acc, g1, h0', hL, r⟩ := mk
    have ha' : SqL X.K H' a us := SqL.of (g1.i _ _ (g1.b _ _ hla))
    by_cases hlt : n < us.length
    · refine .inr ⟨⟨us, us[n], ha', by simp [hlt]⟩, fun H' => Mk1 X.K H01 H1 L (out (n + 1)) H', fun H' p => ⟨us.length - (n + 1), by omega, rfl, hlt, p⟩, ?_⟩
      rintro v H2 ⟨e1, y1⟩
      rw [e1]
      obtain ⟨d, hd, rd⟩ := r0.get (y1 us ha')
      obtain ⟨p, hp, ep⟩ := map_at hd
      subst ep
      have hpm := List.mem_of_getElem? hp
      obtain ⟨u, rfl, hu⟩ := rd.tup2
      refine ⟨_, _, rfl, SqT.of (g1.i _ _ (g1.b _ _ hu)), rfl, _, _, rfl, _, _, rfl, rfl, wipe3 hik hij hkj, ?_⟩
      refine tYes_if ?_
      have s2 := sr_outU (j := j) (s1.grow g1) hik p
      intro sB HB ClB clB fpB
      refine hit p hpm sB HB ClB clB fpB _ _ _ _ _ _ s2 fun w H3 H03 g2 rw => ?_
      cases rw with
      | @lst b ws _ hw rw =>
        refine ⟨b, rfl, ⟨ws, SqL.of (g2.i _ _ hw)⟩, ?_⟩
        have gB := g1.trans g2
        have hL3 := g2.h _ _ hL
        have h03 := not_tup g2 h0' hL (fun xs z => by cases z)
        have o2z : ∀ t d, (inner p)[t]? = some d → ((inner p).take (t + 1)).filter (fp p) = ((inner p).take t).filter (fp p) ++ (if fp p d = true then [d] else []) := fun t d hd => by
          rw [List.take_add_one, hd, List.filter_append]
          simp [List.filter_cons]
        refine ⟨fun t m H' => m = ws.length - t ∧ t ≤ ws.length ∧ ∃ H0' acc, Same H03 H0' ∧ Grow H01 H1 H0' H' ∧ H0' L = none ∧ H' L = some (.lst acc) ∧ RepA X.K H0' acc (out n ++ (((inner p).take t).filter (fp p)).map (fo p)), ⟨ws.length, by simp, Nat.zero_le _, H03, acc, Same.refl _, gB, h03, hL3, by simpa using r.mono g2.b⟩, ?_⟩
        rintro t m2 H4 ⟨rfl, htl, H04, acc4, e34, g4, h04, hL4, r4⟩
        have hb4 : SqL X.K H4 b ws := SqL.of (g4.i _ _ (e34 _ _ hw))
        have hwl := rw.len
        by_cases hlt2 : t < ws.length
        · refine .inr ⟨⟨ws, ws[t], hb4, by simp [hlt2]⟩, fun H' => ∃ H0' acc, Same H03 H0' ∧ Grow H01 H1 H0' H' ∧ H0' L = none ∧ H' L = some (.lst acc) ∧ RepA X.K H0' acc (out n ++ (((inner p).take (t + 1)).filter (fp p)).map (fo p)), fun H' p => ⟨ws.length - (t + 1), by omega, rfl, hlt2, p⟩, ?_⟩
          rintro v2 H5 ⟨e5, y5⟩
          rw [e5]
          obtain ⟨d, hd, rd⟩ := rw.get (y5 ws hb4)
          have s4 := sr_inner (j := j) (sr_outU (j := j) (s1.grow g4) hik p) (rd.mono e34)
          have hz := o2z t d hd
          have hol := outL n (by omega)
          have hfl := List.length_filter_le (fp p) ((inner p).take t)
          rw [List.length_take] at hfl
          have hBk := hB p hpm
          have hmul : (n + 1) * B ≤ (ps.length + 1) * B := Nat.mul_le_mul_right B (by omega)
          rw [Nat.succ_mul] at hmul
          refine ⟨wipe1, ?_⟩
          intro s' H' Cl cl fpp
          refine ht p hpm t d hd s' H' Cl cl fpp _ _ _ _ _ _ s4 fun H6 H06 g6 => ?_
          cases hpd : fp p d with
          | false =>
            rw [if_neg Bool.false_ne_true]
            refine ⟨H06, acc4, e34.trans g6.b, g4.trans g6, not_tup g6 h04 hL4 (fun xs z => by cases z), g6.h _ _ hL4, ?_⟩
            rw [hz, hpd, if_neg Bool.false_ne_true, List.append_nil]
            exact r4.mono g6.b
          | true =>
            rw [if_pos rfl]
            intro s' H' Cl cl fpp
            refine he p hpm t d hd hpd s' H' Cl cl fpp _ _ _ _ _ _ (s4.grow g6) fun y H7 H07 g7 ry => ?_
            have g67 := g6.trans g7
            have h07 := not_tup g67 h04 hL4 (fun xs z => by cases z)
            have gg := g4.trans g67
            refine ⟨acc4, g67.h _ _ hL4, ?_, H07, acc4 ++ [y], e34.trans g67.b, ⟨gg.b, fun a u e => ?_, fun a u e => ?_, gg.n⟩, h07, upd_same, ?_⟩
            · rw [r4.len, List.length_append, List.length_map]
              exact Nat.lt_of_lt_of_le (by omega : _ < 1000000) (by decide)
            · rw [upd_ne (ne_of_none e h07)]; exact gg.i a u e
            · rw [upd_ne (ne_of_none e hn)]; exact gg.h a u e
            · rw [hz, hpd, if_pos rfl, List.map_append, ← List.append_assoc]
              exact (r4.mono g67.b).snoc ry
        · have e : t = ws.length := by omega
          subst e
          refine .inl ⟨⟨ws, hb4, Nat.le_refl _⟩, H04, acc4, g4, h04, hL4, ?_⟩
          rw [hwl, List.take_length] at r4
          rw [outS n p hp]
          exact r4
    · have e : n = us.length := by omega
      subst e
      refine .inl ⟨⟨us, ha', Nat.le_refl _⟩, q L acc _ H0' (g.trans g1) (g.h.free hn) h0' hL ?_⟩
      have : out us.length = ps.flatMap fun p => ((inner p).filter (fp p)).map (fo p) := by
        show (ps.take us.length).flatMap _ = _
        rw [hul, List.take_length]
      rw [← this]
      exact r
end
end DL

end
section
set_option maxHeartbeats 2000000
/-! sorted(xs), xs a list of triples of whole numbers -/
namespace S3
open PySem PySem.Spec PyProof.Rows L2 SrtO
abbrev T3 := Int × Int × Int
def lex3 (p q : T3) : Bool := if p.1 = q.1 then (if p.2.1 = q.2.1 then decide (p.2.2 < q.2.2) else decide (p.2.1 < q.2.1)) else decide (p.1 < q.1)
theorem lex3_t {p q : T3} : lex3 p q = true ↔ p.1 < q.1 ∨ (p.1 = q.1 ∧ (p.2.1 < q.2.1 ∨ (p.2.1 = q.2.1 ∧ p.2.2 < q.2.2))) := by
  unfold lex3
  split
  · split <;> rw [decide_eq_true_eq] <;> omega
  · rw [decide_eq_true_eq]; omega
theorem lex3_f {p q : T3} : lex3 p q = false ↔ ¬ (p.1 < q.1 ∨ (p.1 = q.1 ∧ (p.2.1 < q.2.1 ∨ (p.2.1 = q.2.1 ∧ p.2.2 < q.2.2)))) := by
  rw [← lex3_t]
  simp
theorem swo3 {α : Type} (k : α → T3) : Swo fun v u => lex3 (k v) (k u) :=
  ⟨fun x y h => by
    have := lex3_t.mp h
    exact lex3_f.mpr (by omega), fun x y z h1 h2 => by
    have := lex3_f.mp h1
    have := lex3_f.mp h2
    exact lex3_f.mpr (by omega)⟩
def Is3 (h : Heap) (v : Value) (q : T3) : Prop := ∃ a o t u z n, v = .ref a ∧ h.get? a = some o ∧ o.cls = .type "tuple" ∧ o.data = .seq #[.int q.1 t, .int q.2.1 u, .int q.2.2 z] n
theorem Is3.keeps {h h' : Heap} {v : Value} {q : T3} (p : Is3 h v q) (k : ∀ b o, h.get? b = some o → o.cls = .type "tuple" → h'.get? b = some o) : Is3 h' v q := by
  obtain ⟨a, o, t, u, z, n, e, ho, hc, hd⟩ := p
  exact ⟨a, o, t, u, z, n, e, k a o ho hc, hc, hd⟩
theorem first3 {h : Heap} {k : Value → T3} : ∀ {vs : List Value}, (∀ v ∈ vs, Is3 h v (k v)) → ∃ fs : List Value, PySem.W.KatTups h vs fs ∧ fs.length = vs.length ∧ ∀ f ∈ fs, ∃ x t, f = Value.int x t
  | [], _ => ⟨[], .nil, rfl, nofun⟩
  | v :: vs, hp => by
    obtain ⟨fs, h1, h2, h3⟩ := first3 (vs := vs) fun u hu => hp u (List.mem_cons_of_mem _ hu)
    have h0 := hp v List.mem_cons_self
    generalize k v = q at h0
    obtain ⟨a, o, t, u, z, n, rfl, ho, hc, hd⟩ := h0
    refine ⟨.int q.1 t :: fs, .cons ho hc hd rfl h1, by rw [List.length_cons, List.length_cons, h2], fun f hf => ?_⟩
    rcases List.mem_cons.mp hf with e | hf
    · exact ⟨_, _, e⟩
    · exact h3 f hf
section
variable {prog : Program} {w : World} {A : Around} {E : Value → Shared → Prop} {s : Shared}
theorem cmp3 {vs : List Value} {k : Value → T3} (hp : ∀ v ∈ vs, Is3 s.heap v (k v)) : Cmp prog w A s (tuples' true) (fun p => p.1 ∈ vs) (lt2 fun v u => lex3 (k v) (k u)) := by
  intro p q hm hm'
  have h1 := hp _ hm
  have h2 := hp _ hm'
  show wpAny (model prog w) A (keyLt' (tuples' true) p.1 q.1) (fun r s' => s' = s ∧ r = lex3 (k p.1) (k q.1)) _ s
  unfold lex3
  obtain ⟨⟨x, y, z⟩, hx⟩ : ∃ c, c = k p.1 := ⟨_, rfl⟩
  obtain ⟨⟨x', y', z'⟩, hx'⟩ : ∃ c, c = k q.1 := ⟨_, rfl⟩
  rw [← hx] at h1 ⊢
  rw [← hx'] at h2 ⊢
  obtain ⟨a, o, t, u, v, n, e, ho, _, hd⟩ := h1
  obtain ⟨a', o', t', u', v', n', e', ho', _, hd'⟩ := h2
  rw [e, e']
  refine PySem.W.kat_lt ho hd ho' hd' ?_
  show PySem.W.KatLex prog w A true (decide (3 < 3)) _ [(.int x t, .int x' t'), (.int y u, .int y' u'), (.int z v, .int z' v')] 0 s
  refine PySem.W.kat_cons (SeqAt.EqAt.int_int x t x' t' prog w _ _ (PySem.W.kat_go (fun d => ?_) fun d => ?_))
  · have d : x = x' := by simpa using d
    dsimp only
    rw [if_pos d]
    refine PySem.W.kat_yes (PySem.W.kat_cons (SeqAt.EqAt.int_int y u y' u' prog w _ _ (PySem.W.kat_go (fun d2 => ?_) fun d2 => ?_)))
    · have d2 : y = y' := by simpa using d2
      rw [if_pos d2]
      refine PySem.W.kat_yes (PySem.W.kat_cons (SeqAt.EqAt.int_int z v z' v' prog w _ _ (PySem.W.kat_go (fun d3 => ?_) fun d3 => ?_)))
      · have d3 : z = z' := by simpa using d3
        exact PySem.W.kat_yes (PySem.W.kat_nil ⟨rfl, by rw [d3]; exact (decide_eq_false (Int.lt_irrefl _)).symm⟩)
      · exact PySem.W.kat_no (TS.oneLt_ints _ ⟨rfl, rfl⟩)
    · have d2 : ¬ y = y' := by simpa using d2
      rw [if_neg d2]
      exact PySem.W.kat_no (TS.oneLt_ints _ ⟨rfl, rfl⟩)
  · have d : ¬ x = x' := by simpa using d
    dsimp only
    rw [if_neg d]
    exact PySem.W.kat_no (TS.oneLt_ints _ ⟨rfl, rfl⟩)
theorem able3 {a : Addr} {vs : List Value} {k : Value → T3} (pos : 0 < vs.length) (hp : ∀ v ∈ vs, Is3 s.heap v (k v)) (ha : ∀ o, s.heap.get? a = some o → o.cls ≠ .type "tuple") : SortableO prog w A s a vs fun v u => lex3 (k v) (k u) := by
  intro h' keep
  have hp' : ∀ v ∈ vs, Is3 h' v (k v) := fun v hv => (hp v hv).keeps fun b o e c => keep b o (fun z => ha o (z ▸ e) c) e
  obtain ⟨fs, h1, h2, h3⟩ := first3 hp'
  refine ⟨tuples' true, fun Q E hq => PySem.W.kat_kind (T := .type "int") h1 (by omega) (fun f hf => ?_) (by rfl) ?_, cmp3 hp'⟩
  · obtain ⟨x, t, rfl⟩ := h3 f hf
    exact PySem.W.Looks.now
  · rw [show (Value.type "int" != Value.type "tuple") = true by decide]
    exact hq
end
abbrev lt3 (k : V → T3) : V → V → Bool := fun v u => lex3 (k v) (k u)
section
variable {X : Cx}
def r3 (K : PySem.W.Frag) : List V → Hp → VK → Prop := fun vs H Q => ∃ (a : Addr) (xs : List V) (k : V → T3), vs = [V.ref a] ∧ SqL K H a xs ∧ (∀ x ∈ xs, ∃ t, x = V.ref t ∧ H t = some (.tup [.int (k x).1, .int (k x).2.1, .int (k x).2.2])) ∧
  ∀ ys p, SrtO.Srtd (lt3 k) ys → ys.Perm xs → H p = none → Q (.ref p) (upd H p (.lst ys))
theorem cr_3 : CallR X (.builtin "sorted") (r3 X.K) := by
  intro pins s σ H vs us Q I r h
  obtain ⟨a, xs, k, rfl, hs, hx, q⟩ := h
  obtain ⟨its, rv, hl, hz⟩ := I.list hs
  rw [Vals.ref1 r]
  obtain ⟨e1, e2⟩ := refs_back rv fun x m => by
    obtain ⟨t, e, _⟩ := hx x m
    exact ⟨t, e⟩
  have hp : ∀ v ∈ its, Is3 s.heap v (k (backV v)) := fun v hv => by
    obtain ⟨t, rfl⟩ := e2 v hv
    obtain ⟨t', e, ht⟩ := hx (.ref t) (by rw [e1]; exact List.mem_map.mpr ⟨_, hv, rfl⟩)
    cases e
    obtain ⟨_, its2, r2, o, ho, hc, n, hd⟩ := I.hok _ _ ht
    cases r2 with
    | cons ri r2 =>
    obtain ⟨u1, u2, rfl, rj, rk⟩ := vals2 r2
    obtain ⟨t1, rfl⟩ := ri
    obtain ⟨t2, rfl⟩ := rj
    obtain ⟨t3, rfl⟩ := rk
    exact ⟨t, o, t1, t2, t3, n, rfl, ho, hc, hd⟩
  have hlen : its.length = xs.length := rv.length.symm
  refine sorted_ord (swo3 fun u => k (backV u)) hl.isList (by rw [hlen]; exact hz) (fun h2 h₁ a ha kk => ?_) fun out hs hb => ?_
  · refine able3 (s := { s with heap := h₁ }) (by omega) (fun v hm => (hp v hm).keeps fun b o e _ => (kk b o e).2) fun o e => ?_
    have e' := e.symm.trans ha
    cases e'
    intro c
    exact absurd (Value.type.inj c) (by decide)
  · have h3 : ∀ u ∈ out, ∃ a, u = Value.ref a := fun u hu => e2 u (hb.perm.mem_iff.mp hu)
    obtain ⟨n, hn⟩ := sortedAll_at s.heap its out.toArray
    have hpm : (out.map backV).Perm xs := by
      rw [e1]
      exact hb.perm.map _
    refine ⟨.ref (s.heap.objs.size + 1), upd H (s.heap.objs.size + 1) (.lst (out.map backV)), I.laid (t' := s.toks) (fun b o e => sortedAll_old e) (Nat.le_succ _) ⟨by rw [hpm.length_eq]; exact hz, out, n, vals_back h3, hn⟩, rfl, q _ _ (SrtO.srtd_map hs) hpm (I.hok.fresh (Nat.le_succ _))⟩
end
end S3
namespace DL
open PySem PySem.Spec L2 S3
abbrev dT (q : Int × Int × Int) : D := .tup [.int q.1, .int q.2.1, .int q.2.2]
theorem sh_dT {n : Nat} (q : Int × Int × Int) : Sh (n + 1) (dT q) := fun d hd => by
  simp only [List.mem_cons, List.not_mem_nil, or_false] at hd
  rcases hd with rfl | rfl | rfl <;> exact sh_int
theorem sh_tri {n : Nat} {l : List (Int × Int × Int)} : Sh (n + 2) (.lst (l.map dT)) := sh_map fun _ _ => sh_dT _
theorem dT_inj {p q : Int × Int × Int} (h : dT p = dT q) : p = q := by
  simp only [dT, D.tup.injEq, List.cons.injEq, D.int.injEq, and_true] at h
  exact Prod.ext h.1 (Prod.ext h.2.1 h.2.2)
theorem Rep.tri {K : PySem.W.Frag} {H : Hp} {v : V} {q : Int × Int × Int} (r : Rep K H v (dT q)) : ∃ a, v = .ref a ∧ H a = some (.tup [.int q.1, .int q.2.1, .int q.2.2]) := by
  cases r with
  | @tup a xs _ h r =>
    refine ⟨a, rfl, ?_⟩
    rw [h]
    cases r with
    | cons r1 r => cases r1; cases r with
      | cons r2 r => cases r2; cases r with
        | cons r3 r => cases r3; cases r; rfl
open Classical in
noncomputable def keyT (H : Hp) (x : V) : Int × Int × Int := if e : ∃ q : Int × Int × Int, ∃ a, x = .ref a ∧ H a = some (.tup [.int q.1, .int q.2.1, .int q.2.2]) then Classical.choose e else (0, 0, 0)
theorem keyT_of {H : Hp} {a : Addr} {q : Int × Int × Int} (h : H a = some (.tup [.int q.1, .int q.2.1, .int q.2.2])) : keyT H (.ref a) = q := by
  unfold keyT
  have e : ∃ q : Int × Int × Int, ∃ b, (V.ref a : V) = .ref b ∧ H b = some (.tup [.int q.1, .int q.2.1, .int q.2.2]) := ⟨q, a, rfl, h⟩
  rw [dif_pos e]
  obtain ⟨u, h1, h2⟩ := Classical.choose_spec e
  cases h1
  rw [h] at h2
  simp only [Option.some.injEq, HO.tup.injEq, List.cons.injEq, V.int.injEq, and_true] at h2
  exact (Prod.ext h2.1 (Prod.ext h2.2.1 h2.2.2)).symm
theorem tri_key {K : PySem.W.Frag} {H : Hp} : ∀ {vs : List V} {ps : List (Int × Int × Int)}, RepA K H vs (ps.map dT) → vs.map (keyT H) = ps ∧ ∀ x ∈ vs, ∃ t, x = .ref t ∧ H t = some (.tup [.int (keyT H x).1, .int (keyT H x).2.1, .int (keyT H x).2.2])
  | _, [], .nil => ⟨rfl, fun _ h => nomatch h⟩
  | _, q :: ps, .cons r t => by
    obtain ⟨h1, h2⟩ := tri_key t
    obtain ⟨u, rfl, hu⟩ := r.tri
    have e := keyT_of hu
    refine ⟨by rw [List.map_cons, h1, e], fun x hx => ?_⟩
    rcases List.mem_cons.mp hx with rfl | hx
    · exact ⟨u, rfl, by rw [e]; exact hu⟩
    · exact h2 x hx
theorem tri_rep {K : PySem.W.Frag} {H : Hp} {k : V → Int × Int × Int} : ∀ {vs : List V}, (∀ x ∈ vs, ∃ t, x = .ref t ∧ H t = some (.tup [.int (k x).1, .int (k x).2.1, .int (k x).2.2])) → RepA K H vs ((vs.map k).map dT)
  | [], _ => .nil
  | x :: r, h => by
    obtain ⟨t, e, ht⟩ := h x (by simp)
    refine .cons ?_ (tri_rep fun y hy => h y (by simp [hy]))
    rw [e] at ht ⊢
    exact .tup ht (.cons (.int _) (.cons (.int _) (.cons (.int _) .nil)))
def leT (p q : Int × Int × Int) : Bool := !lex3 q p
theorem leT_iff {p q : Int × Int × Int} : leT p q = true ↔ ¬ (q.1 < p.1 ∨ (q.1 = p.1 ∧ (q.2.1 < p.2.1 ∨ (q.2.1 = p.2.1 ∧ q.2.2 < p.2.2)))) := by
  unfold leT
  rw [Bool.not_eq_true', lex3_f]
/-- two rising rows of the same things are the same -/
theorem leT_perm {l m : List (Int × Int × Int)} (hp : l.Perm m) (h1 : l.Pairwise fun a b => leT a b = true) (h2 : m.Pairwise fun a b => leT a b = true) : l = m :=
  List.Perm.eq_of_pairwise (fun a b _ _ h1 h2 => by
    have := leT_iff.mp h1
    have := leT_iff.mp h2
    exact Prod.ext (by omega) (Prod.ext (by omega) (by omega))) h1 h2 hp
section
variable {X : Cx} {cs : List C} {a : Expr} {pos p : Pos}
theorem eo_sortedT {ps qs : List (Int × Int × Int)} (hm : X.mg "sorted" = none) (ha : EX X cs a (.lst (ps.map dT))) (hp : qs.Perm ps) (hu : qs.Pairwise fun a b => leT a b = true) (hg : Gl X "sorted" := by rfl) (hs : Pl a := by intro _ _; rfl) : EO X cs (.Call (.Name "sorted" p) [a] [] pos) (qs.map dT) := fun He Hb H0 H σ Q s q =>
  wE_of (pe_callB cr_3 hg hm (by decide +kernel) pa_w (by decide) (by decide) (hs _ _) rfl) (ea_cons ha ea_nil hs _ _ _ _ _ _ s fun vs H1 H01 g1 r1 => by
    cases r1 with
    | cons r1 r => cases r; cases r1 with
      | lst hl r =>
        obtain ⟨h1, h2⟩ := tri_key r
        refine ⟨_, _, keyT H01, rfl, SqL.of (g1.i _ _ hl), fun x hx => ?_, fun ys l hsd hpm hn => ?_⟩
        · obtain ⟨t, e, ht⟩ := h2 x hx
          exact ⟨t, e, g1.i _ _ ht⟩
        · have e : ys.map (keyT H01) = qs := leT_perm (by
            have z := hpm.map (keyT H01)
            rw [h1] at z
            exact z.trans hp.symm) (by
            rw [List.pairwise_map]
            refine List.Pairwise.imp (fun {x y} h => ?_) hsd
            unfold leT
            rw [show lex3 (keyT H01 y) (keyT H01 x) = false from h]
            rfl) hu
          refine q l _ _ _ (g1.trans (Grow.own g1.i hn)) (g1.h.free hn) (g1.i.free hn) upd_same ?_
          rw [← e]
          exact tri_rep fun y hy => h2 y (hpm.mem_iff.mp hy))
end
end DL

end
section
set_option maxHeartbeats 2000000
namespace DL
open PySem PySem.Spec L2 S3
theorem ints_of {l : List Int} {j : Nat} {d : D} (h : (l.map D.int)[j]? = some d) : ∃ x, x ∈ l ∧ d = .int x := by
  rw [List.getElem?_map] at h
  obtain ⟨k, e, rfl⟩ := Option.map_eq_some_iff.mp h
  exact ⟨k, List.mem_of_getElem? e, rfl⟩
/-! the gaps of a list of pairs -/
def gapsL (ps : List (Int × Int)) : List (Int × Int × Int) := (sortP (oneL ps)).flatMap fun p => ((headsL (sortP (oneL ps)) p.2).filter fun t => !decide ((p.1, t) ∈ ps)).map fun t => (p.1, p.2, t)
theorem headsL_mem {ps : List (Int × Int)} {t x : Int} : x ∈ headsL ps t ↔ (t, x) ∈ ps := by
  unfold headsL
  simp only [List.mem_map, List.mem_filter, decide_eq_true_eq]
  constructor
  · rintro ⟨p, ⟨h, rfl⟩, rfl⟩; exact h
  · intro h; exact ⟨(t, x), ⟨h, rfl⟩, rfl⟩
theorem one_mem {ps : List (Int × Int)} {q : Int × Int} : q ∈ sortP (oneL ps) ↔ q ∈ ps := (sortP_perm _).mem_iff.trans oneL_mem
theorem gaps_mem {ps : List (Int × Int)} {q : Int × Int × Int} : q ∈ gapsL ps ↔ (q.1, q.2.1) ∈ ps ∧ (q.2.1, q.2.2) ∈ ps ∧ (q.1, q.2.2) ∉ ps := by
  unfold gapsL
  simp only [List.mem_flatMap, List.mem_map, List.mem_filter, headsL_mem, one_mem, Bool.not_eq_true', decide_eq_false_iff_not]
  constructor
  · rintro ⟨p, hp, t, ⟨h1, h2⟩, rfl⟩
    exact ⟨hp, h1, h2⟩
  · rintro ⟨h1, h2, h3⟩
    exact ⟨(q.1, q.2.1), h1, q.2.2, ⟨h2, h3⟩, rfl⟩
theorem gaps_up (ps : List (Int × Int)) : (gapsL ps).Pairwise fun a b => lex3 a b = true := by
  have hs := sortP_lt (oneL_nd ps)
  unfold gapsL
  rw [List.pairwise_flatMap]
  refine ⟨fun p _ => ?_, hs.imp fun {p q} h x hx y hy => ?_⟩
  · rw [List.pairwise_map]
    refine List.Pairwise.imp (R := fun a b => a < b) (fun {a b} h => (lex3_t (p := (p.1, p.2, a)) (q := (p.1, p.2, b))).mpr (.inr ⟨rfl, .inr ⟨rfl, h⟩⟩)) (List.Pairwise.filter _ ?_)
    unfold headsL
    rw [List.pairwise_map]
    refine (hs.filter _).imp_of_mem fun {a b} ha hb h => ?_
    have h1 := of_decide_eq_true (List.mem_filter.mp ha).2
    have h2 := of_decide_eq_true (List.mem_filter.mp hb).2
    rcases h with h | ⟨_, h⟩
    · omega
    · exact h
  · obtain ⟨a, _, rfl⟩ := List.mem_map.mp hx
    obtain ⟨b, _, rfl⟩ := List.mem_map.mp hy
    refine lex3_t.mpr ?_
    rcases h with h | ⟨h1, h2⟩
    · exact .inl h
    · exact .inr ⟨h1, .inl h2⟩
theorem gaps_le (ps : List (Int × Int)) : (gapsL ps).Pairwise fun a b => leT a b = true := (gaps_up ps).imp fun {a b} h => by
  have := lex3_t.mp h
  rw [leT_iff]
  omega
theorem gaps_nd (ps : List (Int × Int)) : (gapsL ps).Nodup := (gaps_up ps).imp fun {a b} h e => by
  subst e
  have := lex3_t.mp h
  omega
theorem oneL_len (ps : List (Int × Int)) : (oneL ps).length ≤ ps.length := nodup_le (oneL_nd ps) fun x hx => oneL_mem.mp hx
theorem heads_len (ps : List (Int × Int)) (t : Int) : (headsL ps t).length ≤ ps.length := by
  unfold headsL
  rw [List.length_map]
  exact List.length_filter_le _ _
theorem gaps_len (ps : List (Int × Int)) : (gapsL ps).length ≤ ps.length * ps.length := by
  unfold gapsL
  have h1 : (sortP (oneL ps)).length ≤ ps.length := by rw [(sortP_perm _).length_eq]; exact oneL_len ps
  have := len_flat (f := fun p : Int × Int => ((headsL (sortP (oneL ps)) p.2).filter fun t => !decide ((p.1, t) ∈ ps)).map fun t => (p.1, p.2, t)) (B := ps.length) (l := sortP (oneL ps)) fun p _ => by
    rw [List.length_map]
    exact Nat.le_trans (List.length_filter_le _ _) (Nat.le_trans (heads_len _ _) h1)
  exact Nat.le_trans this (Nat.mul_le_mul_right _ h1)
/-- any list of just these triples, each once, has this order when it is sorted -/
theorem gaps_perm {ps : List (Int × Int)} {fo : List (Int × Int × Int)} (nd : fo.Nodup) (hm : ∀ q, q ∈ fo ↔ (q.1, q.2.1) ∈ ps ∧ (q.2.1, q.2.2) ∈ ps ∧ (q.1, q.2.2) ∉ ps) : (gapsL ps).Perm fo :=
  (List.perm_ext_iff_of_nodup (gaps_nd ps) nd).mpr fun q => gaps_mem.trans (hm q).symm
/-- the same pairs have the same gaps -/
theorem gaps_congr {ps qs : List (Int × Int)} (h : ∀ q, q ∈ ps ↔ q ∈ qs) : gapsL ps = gapsL qs :=
  leT_perm (gaps_perm (gaps_nd qs) fun q => by rw [gaps_mem, h, h, h]) (gaps_le ps) (gaps_le qs)
end DL

end
section
set_option maxHeartbeats 4000000
namespace Pn
open PySem PySem.Spec L2 DL
abbrev rGaps : List D → (Out → Prop) → Prop := fun ds post => ∃ as : List (Int × Int), ds = [.lst (as.map dP)] ∧ as.length ≤ 700 ∧ post (.ret (.lst ((gapsL as).map dT)))
theorem gaps_made (as : List (Int × Int)) : ((sortP (oneL as)).flatMap fun p => (((headsL (sortP (oneL as)) p.2).map D.int).filter fun d => match d with | .int t => !decide ((p.1, t) ∈ oneL as) | _ => false).map fun d => D.tup [.int p.1, .int p.2, d]) = (gapsL as).map dT := by
  unfold gapsL
  rw [List.map_flatMap]
  congr 1
  funext p
  rw [List.filter_map, List.map_map, List.map_map]
  have e : ((fun d : D => match d with | .int t => !decide ((p.1, t) ∈ oneL as) | _ => false) ∘ D.int) = fun t => !decide ((p.1, t) ∈ as) := funext fun t => by
    show (!decide ((p.1, t) ∈ oneL as)) = _
    rw [show decide ((p.1, t) ∈ oneL as) = decide ((p.1, t) ∈ as) from decide_eq_decide.mpr oneL_mem]
  rw [e]
  rfl
section
variable {P : Program} {w : World} {K : PySem.W.Frag} {mg : Str → Option Value} {base : Heap}
abbrev sgaps : Stmt := top 30
theorem scgaps : FnScope ["arrows", "known", "heads", "tail", "head", "one", "other", "third"] ["arrows"] (defScope sgaps) := ⟨rfl, rfl, rfl, by decide +kernel, rfl, by decide +kernel, by decide +kernel⟩
theorem ok_gaps {f : Addr} {fd : FuncData} (F : Fun K "gaps" "gaps" sgaps f fd) (T : Glb mg) (hset : mg "set" = none) : FnOk P w K mg base CX0 1 f fd ["arrows"] (spN K rGaps) := by
  have nd := scgaps.nd
  refine fn_okN F scgaps (by rintro _ _ ⟨_, rfl, _⟩; rfl) (by decide) ?_
  rintro X _ post ⟨cdv, A, outer, s, H, E, rfl⟩ hr ⟨as, rfl, hl, hp⟩
  have h1 := oneL_len as
  have h2 := (sortP_perm (oneL as)).length_eq
  refine sxo_cons (sx_set 1 nd (ex_set hr rfl hset (ex_v 0) (by omega)) ?_)
  refine fun He Hb H0 H σ E sr q r => heads_w 2 3 4 rfl nd .never (EO.x (eo_sortedZ rfl T.sorted (eb_v 1))) (by omega) sr fun kvs H0' H' σ' gs b s' => ?_
  refine sxo_ret (F := { nx := fun _ => False, rt := fun _ => False }) (eo_of (pe_lc2 (own := [("one", 5), ("other", 6), ("third", 7)]) (vs1 := [7]) (g := gTup K 2 (gCons (gName 5) (gCons (gName 6) gNil))) (g1 := gName 7) (tt := tYes) rfl nd (pi_list pe_w) (blkOk_by (N := ["arrows", "known", "heads", "tail", "head", "one", "other", "third"]) (sc := defScope sgaps) (by decide +kernel)) (by simp)
    (fun _ _ _ _ _ => pg_tup rfl (pgs_cons (pg_name (i := 5) nd rfl (by first | exact Or.inl rfl | exact Or.inr rfl)) (pgs_cons (pg_name (i := 6) nd rfl (by first | exact Or.inl rfl | exact Or.inr rfl)) pgs_nil))) (fun _ _ _ _ _ => pts_nil) (fun _ _ _ _ _ => pi_list (pe_u _ _ _ _ _)) (fun _ _ _ _ _ => pg_name (i := 7) nd rfl (Or.inl rfl)) pts_u pe_u)
    (ro_LUL rfl (B := 700) (fun p => (headsL (sortP (oneL as)) p.2).map D.int) (fun p d => .tup [.int p.1, .int p.2, d]) (fun p d => match d with | .int t => !decide ((p.1, t) ∈ oneL as) | _ => false) (EO.x (eo_sortedZ rfl T.sorted (eb_v 1))) (by decide) (by decide) (by decide) (fun p hp => ?_) (by omega) (fun p hp => ?_) (fun p hp y d hd => ?_) (fun p hp y d hd hf => ?_))) (by rw [gaps_made]; exact hp) _ _ _ _ _ _ s' (q.mono b) r
  · rw [List.length_map]
    have := heads_len (sortP (oneL as)) p.2
    omega
  · intro _ _ _ _ _
    exact EX.to (ex_getI hr (ex_v 2) (eb_v 6) (EO.x (eo_lst ea_nil))) (gs p.2)
  · obtain ⟨t, _, rfl⟩ := ints_of hd
    intro _ _ _ _ _
    exact tx_ninZ hr (EX.bo (ex_tup (ea_cons (ex_v 5) (ea_cons (ex_v 7) ea_nil)))) (eb_v 1)
  · obtain ⟨t, _, rfl⟩ := ints_of hd
    intro _ _ _ _ _
    exact ex_tup (ea_cons (ex_v 5) (ea_cons (ex_v 6) (ea_cons (ex_v 7) ea_nil)))
end
end Pn

end
section
set_option maxHeartbeats 2000000
namespace DL
/-! a net that can be turned: directions O without gaps -/
structure Orien (ts : List (Int × Int)) (O : Int → Int → Prop) : Prop where
  ad : ∀ a b, O a b → adj ts a b = true
  one : ∀ a b, O a b → ¬ O b a
  cov : ∀ a b, adj ts a b = true → O a b ∨ O b a
  tr : ∀ a b c, O a b → O b c → O a c
section
variable {n : Nat} {ts as : List (Int × Int)} {O : Int → Int → Prop}
theorem TurnsOk.orien (h : TurnsOk n ts as) : Orien ts fun a b => (a, b) ∈ as := ⟨fun a b z => h.ad (a, b) z, fun a b z => h.one (a, b) z, fun a b z => h.cov (a, b) z, fun a b c x y => h.tr a b c x y⟩
theorem Orien.once (h : Orien ts O) {a b x y : Int} (hm : (x, y) ∈ onceL n ts a b) (ho : O a b) : O x y := by
  rcases once_mem.mp hm with z | z
  · obtain ⟨e, _, h1, h2, h3⟩ := away_mem.mp z
    simp only at e h1 h2 h3
    subst e
    rcases h.cov x y h1 with q | q
    · exact q
    · have := h.ad _ _ (h.tr y x b q ho)
      rw [adj_sym, h3] at this
      cases this
  · obtain ⟨e, _, h1, h2, h3⟩ := toward_mem.mp z
    simp only at e h1 h2 h3
    subst e
    rcases h.cov y x h1 with q | q
    · have := h.ad _ _ (h.tr a y x ho q)
      rw [h3] at this
      cases this
    · exact q
theorem Orien.walk (h : Orien ts O) {a : Int × Int} (ho : O a.1 a.2) : ∀ {k : Nat} {b : Int × Int}, Walk (stp n ts) a k b → O b.1 b.2
  | _, _, .zero => ho
  | _, _, .succ (b := c) w z => h.once (x := _) (y := _) z (h.walk ho w)
theorem Orien.reach (h : Orien ts O) {a b : Int × Int} (ho : O a.1 a.2) (r : Reach (stp n ts) a b) : O b.1 b.2 := r.elim fun _ w => h.walk ho w
theorem Orien.no_way (ht : Tied n ts) (h : Orien ts O) {p : Int × Int} (hp : adj ts p.1 p.2 = true) : ¬ Reach (stp n ts) p (sw p) := fun r => by
  rcases h.cov p.1 p.2 hp with q | q
  · exact h.one _ _ q (h.reach q r)
  · exact h.one _ _ q (h.reach (a := sw p) (b := p) q (reach_sym ht hp r))
theorem Orien.turned (hn : n ≤ 24) (ht : Tied n ts) (h : Orien ts O) : (turnedK n ts).1 = true := by
  rcases turned_ok hn ht with ⟨e, _⟩ | ⟨_, p, hp, hl⟩
  · exact e
  · exact absurd (least_reach hl) (h.no_way ht hp)
theorem adj_self (ht : Tied n ts) (v : Int) : adj ts v v = false := by
  cases e : adj ts v v with
  | false => rfl
  | true =>
    rcases adj_iff.mp e with z | z <;> exact absurd rfl (ht.1 _ z).2.2.2.2
/-- a point less: the ties between the others, told anew -/
theorem adj_les (ht : Tied n ts) {p x y : Nat} (hx : x < n - 1) (hy : y < n - 1) : adj (lesT n ts p) (x : Int) (y : Int) = adj ts (bak p x : Nat) (bak p y : Nat) := by
  rcases Nat.lt_trichotomy x y with h | h | h
  · exact adj_upT h hy
  · subst h
    rw [adj_self ht, show adj (lesT n ts p) (x : Int) (x : Int) = false from adj_self (n := n - 1) (upT_tied _ _) _]
  · rw [adj_sym, adj_sym (ts := ts)]
    exact adj_upT h hx
theorem Orien.less (ht : Tied n ts) (h : Orien ts O) (p : Nat) : Orien (lesT n ts p) fun x y => (0 ≤ x ∧ x < ((n - 1 : Nat) : Int)) ∧ (0 ≤ y ∧ y < ((n - 1 : Nat) : Int)) ∧ O (bak p x.toNat : Nat) (bak p y.toNat : Nat) := by
  have hT : Tied (n - 1 : Nat) (lesT n ts p) := upT_tied _ _
  have e : ∀ x y : Int, (0 ≤ x ∧ x < ((n - 1 : Nat) : Int)) → (0 ≤ y ∧ y < ((n - 1 : Nat) : Int)) → adj (lesT n ts p) x y = adj ts (bak p x.toNat : Nat) (bak p y.toNat : Nat) := fun x y h1 h2 => by
    have := adj_les ht (p := p) (x := x.toNat) (y := y.toNat) (by omega) (by omega)
    rwa [Int.toNat_of_nonneg h1.1, Int.toNat_of_nonneg h2.1] at this
  refine ⟨fun a b z => ?_, fun a b z q => h.one _ _ z.2.2 q.2.2, fun a b z => ?_, fun a b c x y => ⟨x.1, y.2.1, h.tr _ _ _ x.2.2 y.2.2⟩⟩
  · rw [e a b z.1 z.2.1]
    exact h.ad _ _ z.2.2
  · obtain ⟨p1, p2⟩ := adj_pt hT z
    have p1 := isPt_iff.mp p1
    have p2 := isPt_iff.mp p2
    rw [e a b p1 p2] at z
    rcases h.cov _ _ z with q | q
    · exact .inl ⟨p1, p2, q⟩
    · exact .inr ⟨p2, p1, q⟩
end
end DL

end
section
set_option maxHeartbeats 2000000
namespace DL
/-! the law's ties of a net with a point less -/
def leftT (g : Int) (us : List (Int × Int)) : List (Int × Int) := (us.filter fun t => !decide (t.1 = g) && !decide (t.2 = g)).map fun t => (lessI t.1 g, lessI t.2 g)
theorem leftT_snoc {g : Int} {us : List (Int × Int)} {t : Int × Int} : leftT g (us ++ [t]) = leftT g us ++ (if (!decide (t.1 = g) && !decide (t.2 = g)) = true then [(lessI t.1 g, lessI t.2 g)] else []) := by
  unfold leftT
  rw [List.filter_append, List.map_append]
  congr 1
  rw [List.filter_cons]
  split <;> rfl
theorem leftT_len {g : Int} {us : List (Int × Int)} : (leftT g us).length ≤ us.length := by
  unfold leftT
  rw [List.length_map]
  exact List.length_filter_le _ _
section
variable {n : Nat} {ts us as : List (Int × Int)}
/-- what is asked of directions speaks of the ties alone -/
theorem TurnsOk.same (h : TurnsOk n ts as) (e : ∀ a b, adj us a b = adj ts a b) : TurnsOk n us as := ⟨h.nd, fun p hp => by rw [e]; exact h.ad p hp, h.one, fun p hp => h.cov p (by rw [← e]; exact hp), h.tr⟩
theorem bak_ne {p x : Nat} : ((bak p x : Nat) : Int) ≠ (p : Int) := by
  unfold bak
  split <;> omega
theorem bak_lt {p x : Nat} (h : x < n - 1) : bak p x < n := by
  unfold bak
  split <;> omega
theorem left_mem (ht : Tied n us) {p x y : Nat} : ((x : Int), (y : Int)) ∈ leftT p us ↔ (((bak p x : Nat) : Int), ((bak p y : Nat) : Int)) ∈ us := by
  unfold leftT
  rw [List.mem_map]
  constructor
  · rintro ⟨⟨a, b⟩, hm, e⟩
    rw [List.mem_filter, Bool.and_eq_true, Bool.not_eq_true', Bool.not_eq_true', decide_eq_false_iff_not, decide_eq_false_iff_not] at hm
    obtain ⟨hm, ha, hb⟩ := hm
    have hi := ht.1 _ hm
    simp only [Prod.mk.injEq] at e
    have e1 := (bak_less (x := a) hi.1 ha).1
    have e2 := (bak_less (x := b) hi.2.2.1 hb).1
    rw [e.1, Int.toNat_natCast] at e1
    rw [e.2, Int.toNat_natCast] at e2
    rw [e1, e2]
    exact hm
  · intro hm
    refine ⟨_, List.mem_filter.mpr ⟨hm, ?_⟩, ?_⟩
    · rw [Bool.and_eq_true, Bool.not_eq_true', Bool.not_eq_true', decide_eq_false_iff_not, decide_eq_false_iff_not]
      exact ⟨bak_ne, bak_ne⟩
    · show (lessI _ _, lessI _ _) = _
      rw [less_bak, less_bak]
theorem adj_left (ht : Tied n us) {p x y : Nat} : adj (leftT p us) (x : Int) (y : Int) = adj us (bak p x : Nat) (bak p y : Nat) := by
  rw [Bool.eq_iff_iff, adj_iff, adj_iff, left_mem ht, left_mem ht]
theorem less_inj {a b : Int} {p : Nat} (ha : a ≠ p) (hb : b ≠ p) (e : lessI a p = lessI b p) : a = b := by
  unfold lessI at e
  split at e <;> split at e <;> omega
theorem less_rng {a : Int} {p : Nat} (hp : p < n) (ha : a ≠ p) (h : 0 ≤ a ∧ a < (n : Int)) : 0 ≤ lessI a p ∧ lessI a p < ((n - 1 : Nat) : Int) := by
  unfold lessI
  split <;> omega
theorem left_tied (ht : Tied n us) {p : Nat} (hp : p < n) : Tied (n - 1 : Nat) (leftT p us) := by
  have hf : ∀ t ∈ us.filter (fun t => !decide (t.1 = (p : Int)) && !decide (t.2 = (p : Int))), (t.1 ≠ p ∧ t.2 ≠ p) ∧ t ∈ us := fun t h => by
    rw [List.mem_filter, Bool.and_eq_true, Bool.not_eq_true', Bool.not_eq_true', decide_eq_false_iff_not, decide_eq_false_iff_not] at h
    exact ⟨h.2, h.1⟩
  refine ⟨fun t h => ?_, List.pairwise_map.mpr ((ht.2.filter _).imp_of_mem fun {s t} hs htt h => ⟨fun e => ?_, fun e => ?_⟩)⟩
  · obtain ⟨q, hq, rfl⟩ := List.mem_map.mp h
    obtain ⟨⟨h1, h2⟩, hm⟩ := hf q hq
    have hi := ht.1 q hm
    have r1 := less_rng hp h1 ⟨hi.1, hi.2.1⟩
    have r2 := less_rng hp h2 ⟨hi.2.2.1, hi.2.2.2.1⟩
    exact ⟨r1.1, r1.2, r2.1, r2.2, fun e => hi.2.2.2.2 (less_inj h1 h2 e)⟩
  · have e := Prod.mk.inj e
    exact h.1 (Prod.ext (less_inj (hf s hs).1.1 (hf t htt).1.1 e.1) (less_inj (hf s hs).1.2 (hf t htt).1.2 e.2))
  · have e := Prod.mk.inj (show (lessI s.1 (p : Int), lessI s.2 (p : Int)) = (lessI t.2 (p : Int), lessI t.1 (p : Int)) from e)
    exact h.2 (Prod.ext (less_inj (hf s hs).1.1 (hf t htt).1.2 e.1) (less_inj (hf s hs).1.2 (hf t htt).1.1 e.2))
/-- both ways of leaving a point out tie the same -/
theorem left_les (ht : Tied n ts) (hu : Tied n us) (e : ∀ a b, adj us a b = adj ts a b) {p : Nat} (hp : p < n) (a b : Int) : adj (leftT p us) a b = adj (lesT n ts p) a b := by
  have h1 := left_tied hu hp
  have h2 : Tied (n - 1 : Nat) (lesT n ts p) := upT_tied _ _
  by_cases hr : (0 ≤ a ∧ a < ((n - 1 : Nat) : Int)) ∧ 0 ≤ b ∧ b < ((n - 1 : Nat) : Int)
  · obtain ⟨x, rfl⟩ := Int.eq_ofNat_of_zero_le hr.1.1
    obtain ⟨y, rfl⟩ := Int.eq_ofNat_of_zero_le hr.2.1
    rw [adj_left hu, adj_les ht (by omega) (by omega), e]
  · have no : ∀ l : List (Int × Int), Tied (n - 1 : Nat) l → adj l a b = false := fun l hl => by
      cases z : adj l a b with
      | false => rfl
      | true =>
        obtain ⟨q1, q2⟩ := adj_pt hl z
        exact absurd ⟨isPt_iff.mp q1, isPt_iff.mp q2⟩ hr
    rw [no _ h1, no _ h2]
end
end DL

end
section
set_option maxHeartbeats 2000000
namespace DL
open PySem PySem.Spec L2
/-! when a list of pairs turns the ties of a net -/
def mm (p : Int × Int) : Int × Int := (min p.1 p.2, max p.1 p.2)
theorem mm_lt {p : Int × Int} (h : p.1 ≠ p.2) : (mm p).1 < (mm p).2 := by unfold mm; simp only; omega
theorem mm_if (p : Int × Int) : D.tup [.int (if p.2 < p.1 then p.2 else p.1), .int (if p.2 > p.1 then p.2 else p.1)] = dP (mm p) := by
  have e1 : (if p.2 < p.1 then p.2 else p.1) = min p.1 p.2 := by split <;> omega
  have e2 : (if p.2 > p.1 then p.2 else p.1) = max p.1 p.2 := by split <;> omega
  rw [e1, e2]
  rfl
theorem mm_sw (p : Int × Int) : mm (sw p) = mm p := by unfold mm sw; simp only; exact Prod.ext (by simp only; omega) (by simp only; omega)
theorem mm_two {p q : Int × Int} (h : mm p = mm q) : p = q ∨ p = sw q := by
  unfold mm at h
  have h1 := congrArg Prod.fst h
  have h2 := congrArg Prod.snd h
  simp only at h1 h2
  rcases Int.le_total p.1 p.2 with a | a <;> rcases Int.le_total q.1 q.2 with b | b
  · exact .inl (Prod.ext (by omega) (by omega))
  · exact .inr (Prod.ext (by simp only [sw]; omega) (by simp only [sw]; omega))
  · exact .inr (Prod.ext (by simp only [sw]; omega) (by simp only [sw]; omega))
  · exact .inl (Prod.ext (by omega) (by omega))
theorem mm_adj {ts : List (Int × Int)} {p : Int × Int} (h : adj ts (mm p).1 (mm p).2 = true) : adj ts p.1 p.2 = true := by
  unfold mm at h
  simp only at h
  rcases Int.le_total p.1 p.2 with a | a
  · rwa [Int.min_eq_left a, Int.max_eq_right a] at h
  · rw [Int.min_eq_right a, Int.max_eq_left a] at h
    rwa [adj_sym]
theorem adj_mm {ts : List (Int × Int)} {p : Int × Int} (h : adj ts p.1 p.2 = true) : adj ts (mm p).1 (mm p).2 = true := by
  unfold mm
  simp only
  rcases Int.le_total p.1 p.2 with a | a
  · rwa [Int.min_eq_left a, Int.max_eq_right a]
  · rw [Int.min_eq_right a, Int.max_eq_left a]
    rwa [adj_sym]
/-- what the law asks of a list of directions -/
def Turns (ts as : List (Int × Int)) : Prop := (∀ j a, as[j]? = some a → adj ts a.1 a.2 = true ∧ a ∉ as.take j ∧ sw a ∉ as.take j) ∧ 2 * as.length = (bothK ts).length ∧ ∀ p ∈ as, ∀ q ∈ as, q.1 = p.2 → (p.1, q.2) ∈ as
theorem take_mem {α : Type} {l : List α} {j : Nat} {x : α} (h : x ∈ l.take j) : ∃ i, i < j ∧ l[i]? = some x := by
  obtain ⟨i, hi, e⟩ := List.mem_iff_getElem.mp h
  rw [List.length_take] at hi
  exact ⟨i, by omega, by rw [← e, List.getElem_take, List.getElem?_eq_getElem]⟩
theorem nodup_at {α : Type} {l : List α} (h : l.Nodup) {i j : Nat} {x : α} (h1 : l[i]? = some x) (h2 : l[j]? = some x) : i = j := by
  obtain ⟨a1, a2⟩ := List.getElem?_eq_some_iff.mp h1
  obtain ⟨b1, b2⟩ := List.getElem?_eq_some_iff.mp h2
  have z := List.pairwise_iff_getElem.mp (show List.Pairwise _ _ from h)
  rcases Nat.lt_trichotomy i j with c | c | c
  · exact absurd (a2.trans b2.symm) (z i j a1 b1 c)
  · exact c
  · exact absurd (b2.trans a2.symm) (z j i b1 a1 c)
theorem tied_len {n : Nat} {ts : List (Int × Int)} (h : Tied n ts) : ts.length ≤ n * n :=
  Nat.le_trans (nodup_le (h.2.imp fun z => z.1) fun t ht => allP_mem.mpr ⟨⟨(h.1 t ht).1, (h.1 t ht).2.1⟩, ⟨(h.1 t ht).2.2.1, (h.1 t ht).2.2.2.1⟩⟩) (allP_len n)
theorem pairs_nd (n : Nat) (ts : List (Int × Int)) : (pairsL n ts).Nodup := (pairs_up n ts).imp fun h => h.2
/-- twice as many directions as ties -/
theorem both_two {n : Nat} {ts us : List (Int × Int)} (hu : Tied n us) (e : ∀ a b, adj us a b = adj ts a b) : (bothK ts).length = 2 * (pairsL n us).length := by
  have hs : ((pairsL n us).map sw).Nodup := List.pairwise_map.mpr ((pairs_nd n us).imp fun hne e => hne (congrArg sw e))
  have hnd : (pairsL n us ++ (pairsL n us).map sw).Nodup := nodup_app (pairs_nd n us) hs fun x hx => by
    obtain ⟨y, hy, rfl⟩ := List.mem_map.mp hx
    intro z
    have h1 := ((pairs_arrow hu).mp hy).1
    have h2 := ((pairs_arrow hu).mp z).1
    simp only [sw] at h2
    omega
  have hp : (pairsL n us ++ (pairsL n us).map sw).Perm (bothK ts) := (List.perm_ext_iff_of_nodup hnd (bothK_nd ts)).mpr fun x => by
    have hb : x ∈ bothK ts ↔ adj ts x.1 x.2 = true := by rw [bothK_mem]; exact adj_iff.symm
    rw [hb, ← e, List.mem_append]
    constructor
    · rintro (h | h)
      · exact ((pairs_arrow hu).mp h).2
      · obtain ⟨y, hy, rfl⟩ := List.mem_map.mp h
        rw [adj_sym]
        exact ((pairs_arrow hu).mp hy).2
    · intro h
      rcases Int.lt_trichotomy x.1 x.2 with c | c | c
      · exact .inl ((pairs_arrow hu).mpr ⟨c, h⟩)
      · exact absurd c (adj_ne hu h)
      · exact .inr (List.mem_map.mpr ⟨sw x, (pairs_arrow hu).mpr ⟨c, by rw [adj_sym]; exact h⟩, rfl⟩)
  rw [← hp.length_eq, List.length_append, List.length_map]
  omega
theorem sub_perm {α : Type} [DecidableEq α] {l u : List α} (hl : l.Nodup) (hu : u.Nodup) (hs : ∀ x ∈ l, x ∈ u) (hn : u.length ≤ l.length) : l.Perm u :=
  (List.perm_ext_iff_of_nodup hl hu).mpr fun x => ⟨hs x, fun hx => Classical.byContradiction fun z => by
    have := nodup_le (l := x :: l) (u := u) (List.nodup_cons.mpr ⟨z, hl⟩) fun y hy => by
      rcases List.mem_cons.mp hy with rfl | hy
      · exact hx
      · exact hs y hy
    rw [List.length_cons] at this
    omega⟩
theorem gaps_none {as : List (Int × Int)} : gapsL as = [] ↔ ∀ p ∈ as, ∀ q ∈ as, q.1 = p.2 → (p.1, q.2) ∈ as := by
  rw [List.eq_nil_iff_forall_not_mem]
  constructor
  · intro h p hp q hq e
    refine Classical.byContradiction fun z => h (p.1, p.2, q.2) (gaps_mem.mpr ⟨hp, ?_, z⟩)
    show (p.2, q.2) ∈ as
    rw [← e]
    exact hq
  · intro h q hq
    obtain ⟨h1, h2, h3⟩ := gaps_mem.mp hq
    exact h3 (h _ h1 _ h2 rfl)
theorem fits_iff {n : Nat} {ts us as : List (Int × Int)} (hu : Tied n us) (e : ∀ a b, adj us a b = adj ts a b) : (sortP (as.map mm) = pairsL n us ∧ gapsL as = []) ↔ Turns ts as := by
  have hb := both_two hu e
  constructor
  · rintro ⟨h1, h2⟩
    have hp : (as.map mm).Perm (pairsL n us) := by rw [← h1]; exact (sortP_perm _).symm
    have hnd : (as.map mm).Nodup := hp.nodup_iff.mpr (pairs_nd n us)
    refine ⟨fun j a ha => ?_, ?_, gaps_none.mp h2⟩
    · have hm := hp.mem_iff.mp (List.mem_map.mpr ⟨a, List.mem_of_getElem? ha, rfl⟩)
      have had : adj ts a.1 a.2 = true := by rw [← e]; exact mm_adj ((pairs_arrow hu).mp hm).2
      have no : ∀ b, mm b = mm a → b ∉ as.take j := fun b hba hb => by
        obtain ⟨i, hi, ei⟩ := take_mem hb
        have hj := (List.getElem?_eq_some_iff.mp ha).1
        have h1 : (as.map mm)[i]? = some (mm a) := by rw [List.getElem?_map, ei]; exact congrArg some hba
        have h2 : (as.map mm)[j]? = some (mm a) := by rw [List.getElem?_map, ha]; rfl
        exact absurd (nodup_at hnd h1 h2) (by omega)
      exact ⟨had, no a rfl, no (sw a) (mm_sw a)⟩
    · rw [hb, ← hp.length_eq, List.length_map]
  · rintro ⟨h1, h2, h3⟩
    refine ⟨?_, gaps_none.mpr h3⟩
    have hnd : (as.map mm).Nodup := by
      unfold List.Nodup
      rw [List.pairwise_map, List.pairwise_iff_getElem]
      intro i j hi hj hij z
      obtain ⟨_, b2, b3⟩ := h1 j as[j] (List.getElem?_eq_getElem hj)
      have hin : as[i] ∈ as.take j := List.mem_iff_getElem.mpr ⟨i, by rw [List.length_take]; omega, by rw [List.getElem_take]⟩
      rcases mm_two z with q | q
      · exact b2 (q ▸ hin)
      · exact b3 (q ▸ hin)
    have hp : (as.map mm).Perm (pairsL n us) := by
      refine sub_perm hnd (pairs_nd n us) (fun x hx => ?_) (by rw [List.length_map]; omega)
      obtain ⟨a, ha, rfl⟩ := List.mem_map.mp hx
      obtain ⟨j, hj, ej⟩ := List.mem_iff_getElem.mp ha
      have had : adj us a.1 a.2 = true := by rw [e]; exact (h1 j a (by rw [List.getElem?_eq_getElem hj, ej])).1
      exact (pairs_arrow hu).mpr ⟨mm_lt (adj_ne hu had), adj_mm had⟩
    refine (sortP_eq hp.symm ?_).symm
    exact (pairs_up n us).imp fun h => h.1
end DL

end
section
set_option maxHeartbeats 2000000
namespace DL
open PySem PySem.Spec L2
section
variable {X : Cx} {cs : List C} {a e b : Expr} {ds : List D} {pos p2 : Pos}
/-- not xs, as a value -/
theorem ex_notL (ha : EB X cs a (.lst ds)) : EX X cs (.UnaryOp .Not a pos) (.bl ds.isEmpty) := fun He Hb H0 H σ Q s q =>
  wE_of (pe_notT pe_w) (ha _ _ _ _ _ _ s fun v H1 H01 g r => by
    cases r with
    | lst hl r =>
      cases r with
      | nil => exact ⟨false, .inl ⟨_, SqL.of hl, rfl⟩, q _ _ _ g (.bl _)⟩
      | cons _ _ => exact ⟨true, .inl ⟨_, SqL.of hl, rfl⟩, q _ _ _ g (.bl _)⟩)
theorem cut_but {xs : List V} : cutV xs none (some (-1)) = xs.dropLast := by
  unfold cutV
  have e1 : HT.sIx xs.length 0 none = 0 := rfl
  have e2 : HT.sIx xs.length xs.length (some (-1)) = xs.length - 1 := by
    show (if (-1 : Int) < 0 then ((-1 : Int) + (xs.length : Int)).toNat else min (-1 : Int).toNat xs.length) = _
    rw [if_pos (by decide)]
    omega
  rw [e1, e2, List.drop_zero, Nat.sub_zero, List.dropLast_eq_take]
theorem RepA.but {K : PySem.W.Frag} {H : Hp} {vs : List V} {ds : List D} (r : RepA K H vs ds) : RepA K H vs.dropLast ds.dropLast := by
  rw [List.dropLast_eq_take, List.dropLast_eq_take, r.len]
  exact r.take _
/-- xs[:-1] -/
theorem eo_slBut (ha : EX X cs e (.lst ds)) (hb : EB X cs b (.int (-1))) : EO X cs (.Subscript e (.Slice none (some b) none p2) pos) ds.dropLast := fun He Hb H0 H σ Q s q =>
  wE_of (pe_slice sl_list pe_w po_none (po_some pe_w)) (ha _ _ _ _ _ _ s fun x H1 H01 g1 r1 => hb _ _ _ _ _ _ (s.grow g1) fun y H2 H02 g2 r2 => by
    cases r2
    cases r1 with
    | lst hl r =>
      refine ⟨_, rfl, _, _, rfl, SqL.of (g2.h _ _ (g1.i _ _ hl)), fun l hn => ?_⟩
      rw [cut_but]
      have g := g1.trans g2
      exact q l _ _ _ (g.trans (Grow.own g.i hn)) (g.h.free hn) (g.i.free hn) upd_same (r.but.mono g2.b))
end
end DL

end
section
set_option maxHeartbeats 4000000
namespace Pn
open PySem PySem.Spec L2 DL
/-- whether the pairs turn the net's ties -/
def fitB (n : Nat) (us as : List (Int × Int)) : Bool := decide (sortP (as.map mm) = pairsL n us) && decide (gapsL as = [])
abbrev rFits (c : At) : List D → (Out → Prop) → Prop := fun ds post => ∃ (n : Nat) (us as : List (Int × Int)), ds = [netD c n us, .lst (as.map dP)] ∧ (n ≤ 24 ∧ as.length ≤ 700) ∧ post (.ret (.bl (fitB n us as)))
theorem fit_is {n : Nat} {us as : List (Int × Int)} : (eqS (.lst ((sortP (as.map mm)).map dP)) (.lst ((pairsL n us).map dP)) && ((gapsL as).map dT).isEmpty) = fitB n us as := by
  unfold fitB
  congr 1
  · by_cases h : sortP (as.map mm) = pairsL n us
    · rw [h, decide_eq_true rfl]
      exact (eqS_iff (sh_pairs (n := 0)) (sh_pairs (n := 0))).mpr rfl
    · rw [decide_eq_false h]
      refine eqS_no (sh_pairs (n := 0)) (sh_pairs (n := 0)) fun e => h ?_
      exact (List.map_inj_right (fun {x y} z => dP_inj x y z)).mp (D.lst.inj e)
  · rw [List.isEmpty_map]
    by_cases h : gapsL as = []
    · rw [h]; rfl
    · rw [decide_eq_false h, List.isEmpty_eq_false_iff.mpr h]
section
variable {P : Program} {w : World} {K : PySem.W.Frag} {mg : Str → Option Value} {base : Heap} {c : At}
abbrev sfits : Stmt := top 31
theorem scfits : FnScope ["net", "arrows", "ties", "one", "other"] ["net", "arrows"] (defScope sfits) := ⟨rfl, rfl, rfl, by decide +kernel, rfl, by decide +kernel, by decide +kernel⟩
theorem ok_fits {f fp : Addr} {fd fdp : FuncData} {psp : List Str} (F : Fun K "fits" "fits" sfits f fd) (T : LawK K mg c) (hmin : mg "min" = none) (hmax : mg "max" = none) (gGaps : FnC P w K mg base CX0 1 "gaps" rGaps) (mPairs : MtC P w K mg base CX0 1 c.net "pairs" fp fdp psp (rPairs c)) : FnOk P w K mg base CX0 2 f fd ["net", "arrows"] (spD K (rFits c)) := by
  have nd := scfits.nd
  have T0 := T.toGlb
  refine fn_okD F scfits (by rintro _ _ ⟨_, _, _, rfl, _⟩; rfl) (by decide) ?_
  rintro X _ post ⟨cdv, A, outer, s, H, E, rfl⟩ hr ⟨n, us, as, rfl, ⟨hn, hl⟩, hp⟩
  have hsz : (as.map mm).map dP = as.map fun p => dP (mm p) := by rw [List.map_map]; rfl
  refine sxs_cons (sx_set 2 nd (EO.x (eo_sortedP (ps := as.map mm) T0.sorted (EX.to (EO.x (eo_of (pe_lc (own := [("one", 3), ("other", 4)]) (g := gTup K 2 (gCons (gName 3) (gCons (gName 4) gNil))) (tt := tYes) rfl nd (pi_list pe_w) (blkOk_by (N := ["net", "arrows", "ties", "one", "other"]) (sc := defScope sfits) (by decide +kernel)) (fun _ _ _ _ _ => pg_tup rfl (pgs_cons (pg_name (i := 3) nd rfl (by first | exact Or.inl rfl | exact Or.inr rfl)) (pgs_cons (pg_name (i := 4) nd rfl (by first | exact Or.inl rfl | exact Or.inr rfl)) pgs_nil))) (fun _ _ _ _ _ => pts_nil) pe_u) (ro_LU rfl (by decide) (fun p => dP (mm p)) (ex_v 1) (by omega) (fun j p hp => ?_)))) (by rw [hsz])))) ?_)
  · intro _ _ _ _ _
    exact EX.to (ex_tup (ea_cons (ex_min2 rfl hmin (ex_v 3) (ex_v 4)) (ea_cons (ex_max2 rfl hmax (ex_v 3) (ex_v 4)) ea_nil))) (mm_if p)
  refine sxs_one (sx_ret (EX.to (d' := .bl (fitB n us as)) (ex_and (EX.bo (ex_eqS hr (eb_v 2) (EX.bo (ex_meth0 (pe_meth0 pe_w T.cl mPairs.me mPairs.ok (hr.mono (by decide)) mPairs.bi .nil pass0) (ex_v 0) rfl (by exact ⟨n, us, rfl, hn, rfl⟩))) (sh_pairs (n := 0)) (sh_pairs (n := 0)))) (fun _ => ex_one (ex_notL (EX.bo (ex_call gGaps (hr.mono (by decide)) pass0 (ea_cons (ex_v 1) ea_nil) (by exact ⟨as, rfl, hl, rfl⟩)))))) (congrArg D.bl fit_is)) hp)
end
end Pn

end
section
set_option maxHeartbeats 4000000
namespace Lw
open PySem PySem.Spec L2 DL
/-- the program's word is the law's -/
theorem fit_turns {n : Nat} {ts us as : List (Int × Int)} (hu : Tied n us) (e : ∀ a b, adj us a b = adj ts a b) : Pn.fitB n us as = turnsB ts as := by
  have h := fits_iff hu e (as := as)
  have hb : Pn.fitB n us as = true ↔ (sortP (as.map mm) = pairsL n us ∧ gapsL as = []) := by
    unfold Pn.fitB
    rw [Bool.and_eq_true, decide_eq_true_iff, decide_eq_true_iff]
  by_cases z : TurnsL ts as
  · rw [turnsB_t z]
    exact hb.mpr (h.mpr z)
  · rw [turnsB_f z]
    exact Bool.eq_false_iff.mpr fun y => z (h.mp (hb.mp y))
end Lw

end
section
set_option maxHeartbeats 2000000
namespace DL
open PySem PySem.Spec L2
/-- a list of numbers read as the law's script -/
theorem Rep.scr_of {K : PySem.W.Frag} {H : Hp} {v : V} {ns : List Int} (r : Rep K H v (.lst (ns.map D.int))) : Rep K H v (.scr ns) := by
  cases r with
  | lst h r =>
    have e := RepA.ints_of r
    subst e
    exact .scr (SqL.of h)
theorem EX.scr {X : Cx} {cs : List C} {e : Expr} {ns : List Int} (h : EX X cs e (.lst (ns.map D.int))) : EX X cs e (.scr ns) := fun He Hb H0 H σ Q s q => h _ _ _ _ _ _ s fun v H' H0' g r => q v H' H0' g r.scr_of
section
variable {X : Cx} {cs : List C} {R : List D → (Out → Prop) → Prop} {ds xs : List D} {b : Bool} {CX : CXT} {g : Str} {k : Nat} {es : List Expr} {e e3 : Expr} {p pos : Pos} {E0 : XK} {d3 : D}
/-- told = g(..); a test that says no; held = ..; a test that says no; told[1].clear(); what follows reads neither -/
theorem sxs_lendH (i j : Nat) {x y : Str} {c c2 : Expr} {A A2 rest : List Stmt} {F : DE} {px py p3 p4 p5 pos1 pos2 pos3 pos4 pos5 ap cp : Pos} {k5 : Nat} (hN : X.N.Nodup) (G : FnT X.prog X.w X.K X.mg X.base CX k g R) (hr : Room k X.A) (hx : Passes CX X E0) (ha : EA X cs (e :: es) ds) (h : R ds (fun o => o = .ret (.tup [.bl b, .lst xs])))
    (no : ∀ c ∈ cs, c.own = false) (hc : TX X (cs.set i (.sh (.tup [.bl b, .lst xs]))) c false) (h3 : EX X (cs.set i (.sh (.tup [.bl b, .lst xs]))) e3 d3) (hc2 : TX X ((cs.set i (.sh (.tup [.bl b, .lst xs]))).set j (.sh d3)) c2 false) (hrest : SXs X ((cs.set i .any).set j .any) rest F)
    (hij : j ≠ i := by decide) (hg : Gl X g := by rfl) (hdb : (g == ("__debug__" : Str)) = false := by decide) (hs : Pl e := by intro _ _; rfl) (hpl : (backTo pos (starEach es X.env)).any (·.1) = false := by rfl)
    (hi : X.N[i]? = some x := by rfl) (hlo : Loc X.env.scope x := by first | exact Or.inl rfl | exact Or.inr rfl) (hsw : swapsWith (.Call (.Name g p) (e :: es) [] pos) (some (.Name x px)) pos1.line X.env = pure false := by rfl) (hf : X.fn x = true ∨ X.env.scope.names.lookup x = some .local := by first | exact .inl rfl | exact .inr rfl)
    (hj : X.N[j]? = some y := by rfl) (hlo2 : Loc X.env.scope y := by first | exact Or.inl rfl | exact Or.inr rfl) (hsw2 : swapsWith e3 (some (.Name y py)) pos4.line X.env = pure false := by rfl) (hf2 : X.fn y = true ∨ X.env.scope.names.lookup y = some .local := by first | exact .inl rfl | exact .inr rfl)
    (hv : Vis X.env.scope x := by first | exact Or.inl rfl | exact Or.inr (Or.inl rfl) | exact Or.inr (Or.inr rfl)) (hd : (x == ("__debug__" : Str)) = false := by decide) (hcd : (x == ("__classdict__" : Str)) = false := by decide)
    (hcl : PE X (.Subscript (.Name x p3) (.Constant (.int 1) k5 p5) p4) (tOp (rIxT X.K) (tVar i) (tC (.int 1))) → PS X (.Expr (.Call (.Attribute (.Subscript (.Name x p3) (.Constant (.int 1) k5 p5) p4) "clear" ap) [] [] cp) pos3) (tDrop (tBM0 X.K "list" rClear (tOp (rIxT X.K) (tVar i) (tC (.int 1))))) := by
      intro h; exact ps_expr (pe_bm0 PySem.F.plainAttrs_list PySem.F.slot_list_clear PySem.F.type_list_clear mt_clear h)) (hpx : PlainIx (.Constant (.int 1) k5 p5) := by intro _ _; rfl) (hin : i < cs.length := by exact Nat.le_of_ble_eq_true rfl) :
    SXs X cs (.Assign [.Name x px] (.Call (.Name g p) (e :: es) [] pos) pos1 :: .If c A [] pos2 :: .Assign [.Name y py] e3 pos4 :: .If c2 A2 [] pos5 :: .Expr (.Call (.Attribute (.Subscript (.Name x p3) (.Constant (.int 1) k5 p5) p4) "clear" ap) [] [] cp) pos3 :: rest) F := fun He Hb H0 H σ E s q => by
  refine wSs_of (pss_cons (ps_set hN hi hlo pe_w hsw hf) pss_w) ?_
  refine wE_callT G hr hx ha h hg hdb hs hpl s fun t l ws H1 H01 g1 hl h0 ht h0t hne et el rw => ?_
  have s0 : SR X.K He Hb H01 H1 (σ.set i (some (.ref t))) (cs.set i .any) := (s.grow g1).setAny i _
  have hσ : (σ.set i (some (.ref t)))[i]? = some (some (V.ref t)) := List.getElem?_set_self (by rw [s.len]; exact hin)
  have hbl : Hb l = none := s.gr.h.free hl
  have gF := (g1.freeze hl h0 el).freeze (o := .tup [.bl b, .ref l]) ht (by rw [upd_ne hne]; exact h0t) et
  have hrep : Rep X.K (upd (upd H01 l (.lst ws)) t (.tup [.bl b, .ref l])) (.ref t) (.tup [.bl b, .lst xs]) := by
    refine .tup upd_same (.cons (.bl b) (.cons (.lst (xs := ws) ?_ ?_) .nil))
    · rw [upd_ne hne.symm]; exact upd_same
    · exact (rw.mono (same_upd h0)).mono (same_upd (by rw [upd_ne hne]; exact h0t))
  have sF := (s.grow gF).set (i := i) hrep
  refine wSs_of (pss_cons (ps_if pt_w pss_w pss_nil) pss_w) (hc _ _ _ _ _ _ sF fun H2 H02 g2 => ?_)
  refine wSs_of (pss_cons (ps_set hN hj hlo2 pe_w hsw2 hf2) pss_w) ?_
  refine h3 _ _ _ _ _ _ (sF.grow g2) fun v H3 H03 g3 r3 => ?_
  have sG := ((sF.grow g2).grow g3).set (i := j) r3
  refine wSs_of (pss_cons (ps_if pt_w pss_w pss_nil) pss_w) (hc2 _ _ _ _ _ _ sG fun H4 H04 g4 => ?_)
  have gg := (g2.trans g3).trans g4
  have et2 : H4 t = some (.tup [.bl b, .ref l]) := gg.h _ _ et
  have el2 : H4 l = some (.lst ws) := gg.h _ _ el
  refine wSs_of (pss_cons (hcl (pe_ix ix_tup (pe_var hi hv hd hcd) pe_int hpx)) pss_w) ?_
  refine ⟨_, (List.getElem?_set_ne hij).trans hσ, ?_⟩
  refine ⟨t, _, 1, .ref l, rfl, rfl, SqT.of et2, rfl, .inl ⟨rfl, _, SqL.of el2⟩, l, ws, rfl, rfl, el2, ?_⟩
  refine hrest _ _ _ _ _ _ ((s0.anyV j (some v)).later (no_set (no_set no rfl) rfl) (fun a u e => ?_) (fun a u e => ?_)) (q.mono g1.b)
  · rw [upd_ne (ne_of_none e h0)]; exact gg.h _ _ (g1.i _ _ e)
  · rw [upd_ne (ne_of_none e hbl)]; exact gg.h _ _ (g1.h _ _ (s.gr.h _ _ e))
end
end DL

end
section
set_option maxHeartbeats 2000000
namespace DL
open PySem PySem.Spec L2
section
variable {X : Cx} {cs : List C} {a b : Expr} {p pos : Pos} {ds : List D} {d : D} {k : Nat}
/-- list(t), t a tuple -/
theorem eo_listTup (hm : X.mg "list" = none) (ha : EX X cs a (.tup ds)) (hg : Gl X "list" := by rfl) (hs : Pl a := by intro _ _; rfl) : EO X cs (.Call (.Name "list" p) [a] [] pos) ds := fun He Hb H0 H σ Q s q =>
  wE_of (pe_callTy call_list_of hg hm (by decide +kernel) pa_w (by decide) (by decide) (hs _ _) rfl) (ea_cons ha ea_nil hs _ _ _ _ _ _ s fun vs H1 H01 g1 r1 => by
    cases r1 with
    | cons r1 r => cases r; cases r1 with
      | tup hl r => exact ⟨_, _, rfl, .inr (SqT.of (g1.i _ _ hl)), fun l hn => q l _ _ _ (g1.trans (Grow.own g1.i hn)) (g1.h.free hn) (g1.i.free hn) upd_same r⟩)
/-- what may be compared with itself -/
def Cmp1 (d : D) : Prop := (∃ b, d = .bl b) ∨ d = .non ∨ ∃ xs, d = .lst xs ∧ Sh 10 d
theorem tx_neSelf (hr : Room k X.A) (ha : EB X cs a d) (hb : EB X cs b d) (h : Cmp1 d) : TX X cs (.Compare a [.NotEq] [b] pos) false := by
  rcases h with ⟨k, rfl⟩ | rfl | ⟨xs, rfl, h⟩
  · exact (tx_neB ha hb).to (by cases k <;> rfl)
  · exact (tx_neS hr ha hb (sh_non (n := 0)) (sh_non (n := 0))).to (by rw [eqS_self (sh_non (n := 0)) rfl]; rfl)
  · exact (tx_neS hr ha hb h h).to (by rw [eqS_self h rfl]; rfl)
end
section
variable {X : Cx} {cs : List C} {F : DE} {pos p1 p2 n1 n2 : Pos}
/-- try: body; one clause without a name takes every error that the body lets out -/
theorem sx_try1 {x : Str} {c : Value} {Ex : Addr → Prop} {body suite : List Stmt} {b₀ : Stmt} (hc : Names X x c)
    (hb : ∀ pn xe, SXs (X.tr pn xe) cs body { F with ex := fun Cl cs' => cs' = cs ∧ Ex Cl }) (hx : ∀ Cl, Ex Cl → PySem.W.exmOne X.K (.ref Cl) c = some true)
    (hsu : ∀ Cl, Ex Cl → ∀ (x1 : Addr) (oe : Obj) (pn : List (Addr × Obj)), SXs (X.suite x1 ((x1, oe) :: pn)) cs (b₀ :: suite) { nx := F.nx, rt := F.rt, bk := F.bk, ct := F.ct })
    (hs : X.stack = X.env :: X.outer := by rfl) (hf : X.env.frame = some X.env.locals := by rfl) : SX X cs (.Try body [.ExceptHandler (some (.Name x n1)) none (b₀ :: suite) p1] [] [] pos) F := fun He Hb H0 H σ E s q => by
  refine wS_of (L2N.ps_try_many hs hf takes0N (tb := fun W D σ H => ∀ pn xe, L2N.Takes (X.tr pn xe) W → wSs (X.tr pn xe) body D σ H) (Wout := fun _ _ _ _ => False)
    (fun W pn xe tk _ => ⟨fun pins s σ H D I h => h pn xe tk pins s I⟩) (.cons (ts := fun x1 cls d D σ H => ∀ oe pn, L2N.Zn cls d oe → (∃ vs, oe.data = .fields vs) → wSs (X.suite x1 ((x1, oe) :: pn)) (b₀ :: suite) D σ H) hc (fun x1 oe cls d pn hz hf => ⟨fun pins s σ H D I h => h oe pn hz hf pins s I⟩) .nil)) ?_
  intro pn xe tk
  refine hb pn xe _ _ _ _ _ _ s ⟨q.nx, q.rt, q.bk, q.ct, tk.imp ?_⟩
  rintro cls d σ' H' ⟨Cl, cs', H0', rfl, rfl, e3, s', rfl, hE⟩
  refine ⟨true, hx Cl hE, fun _ x1 na => ?_, fun z => nomatch z⟩
  intro oe pn' hz hfv
  exact hsu Cl hE x1 oe pn' _ _ _ _ _ _ s' ⟨fun cs2 H2 H3 σ3 e2 s2 z => q.nx _ _ _ _ (e3.trans e2) s2 z, q.rt, fun cs2 H2 H3 σ3 e2 s2 z => q.bk _ _ _ _ (e3.trans e2) s2 z, fun cs2 H2 H3 σ3 e2 s2 z => q.ct _ _ _ _ (e3.trans e2) s2 z, takes_no⟩
/-- .. two clauses -/
theorem sx_try2 {x y : Str} {c c2 : Value} {Ex : Addr → Prop} {body suite suite2 : List Stmt} {b₀ b₁ : Stmt} (hc : Names X x c) (hc2 : Names X y c2)
    (hb : ∀ pn xe, SXs (X.tr pn xe) cs body { F with ex := fun Cl cs' => cs' = cs ∧ Ex Cl })
    (hsu : ∀ Cl, Ex Cl → (PySem.W.exmOne X.K (.ref Cl) c = some true ∧ ∀ (x1 : Addr) (oe : Obj) (pn : List (Addr × Obj)), SXs (X.suite x1 ((x1, oe) :: pn)) cs (b₀ :: suite) { nx := F.nx, rt := F.rt, bk := F.bk, ct := F.ct }) ∨
      (PySem.W.exmOne X.K (.ref Cl) c = some false ∧ PySem.W.exmOne X.K (.ref Cl) c2 = some true ∧ ∀ (x1 : Addr) (oe : Obj) (pn : List (Addr × Obj)), SXs (X.suite x1 ((x1, oe) :: pn)) cs (b₁ :: suite2) { nx := F.nx, rt := F.rt, bk := F.bk, ct := F.ct }))
    (hs : X.stack = X.env :: X.outer := by rfl) (hf : X.env.frame = some X.env.locals := by rfl) :
    SX X cs (.Try body [.ExceptHandler (some (.Name x n1)) none (b₀ :: suite) p1, .ExceptHandler (some (.Name y n2)) none (b₁ :: suite2) p2] [] [] pos) F := fun He Hb H0 H σ E s q => by
  refine wS_of (L2N.ps_try_many hs hf takes0N (tb := fun W D σ H => ∀ pn xe, L2N.Takes (X.tr pn xe) W → wSs (X.tr pn xe) body D σ H) (Wout := fun _ _ _ _ => False)
    (fun W pn xe tk _ => ⟨fun pins s σ H D I h => h pn xe tk pins s I⟩) (.cons (ts := fun x1 cls d D σ H => ∀ oe pn, L2N.Zn cls d oe → (∃ vs, oe.data = .fields vs) → wSs (X.suite x1 ((x1, oe) :: pn)) (b₀ :: suite) D σ H) hc (fun x1 oe cls d pn hz hf => ⟨fun pins s σ H D I h => h oe pn hz hf pins s I⟩)
      (.cons (ts := fun x1 cls d D σ H => ∀ oe pn, L2N.Zn cls d oe → (∃ vs, oe.data = .fields vs) → wSs (X.suite x1 ((x1, oe) :: pn)) (b₁ :: suite2) D σ H) hc2 (fun x1 oe cls d pn hz hf => ⟨fun pins s σ H D I h => h oe pn hz hf pins s I⟩) .nil))) ?_
  intro pn xe tk
  refine hb pn xe _ _ _ _ _ _ s ⟨q.nx, q.rt, q.bk, q.ct, tk.imp ?_⟩
  rintro cls d σ' H' ⟨Cl, cs', H0', rfl, rfl, e3, s', rfl, hE⟩
  rcases hsu Cl hE with ⟨h1, h2⟩ | ⟨h1, h3, h2⟩
  · refine ⟨true, h1, fun _ x1 na => ?_, fun z => nomatch z⟩
    intro oe pn' hz hfv
    exact h2 x1 oe pn' _ _ _ _ _ _ s' ⟨fun cs2 H2 H3 σ3 e2 s2 z => q.nx _ _ _ _ (e3.trans e2) s2 z, q.rt, fun cs2 H2 H3 σ3 e2 s2 z => q.bk _ _ _ _ (e3.trans e2) s2 z, fun cs2 H2 H3 σ3 e2 s2 z => q.ct _ _ _ _ (e3.trans e2) s2 z, takes_no⟩
  · refine ⟨false, h1, (fun z => nomatch z), fun _ => ⟨true, h3, fun _ x1 na => ?_, fun z => nomatch z⟩⟩
    intro oe pn' hz hfv
    exact h2 x1 oe pn' _ _ _ _ _ _ s' ⟨fun cs2 H2 H3 σ3 e2 s2 z => q.nx _ _ _ _ (e3.trans e2) s2 z, q.rt, fun cs2 H2 H3 σ3 e2 s2 z => q.bk _ _ _ _ (e3.trans e2) s2 z, fun cs2 H2 H3 σ3 e2 s2 z => q.ct _ _ _ _ (e3.trans e2) s2 z, takes_no⟩
end
end DL

end
section
set_option maxHeartbeats 4000000
namespace Lw
open PySem PySem.Spec L2 DL
/-- the law's arrow, or what may be none -/
def arrow15 (ts : List (Int × Int)) (z : Int) (n : Nat) : Int × Int :=
  let l := sortP (bothK ts)
  if (!l.isEmpty && decide (0 < z % 5)) = true then l.getD ((z / 5 % (l.length : Int)).toNat) (0, 0) else (z / 5 % ((n : Int) + 3) - 1, z / 35 % ((n : Int) + 3) - 1)
theorem arrow15_bd {ts : List (Int × Int)} {z : Int} {n : Nat} (hn : n ≤ 24) (ht : Tied n ts) : (-1 ≤ (arrow15 ts z n).1 ∧ (arrow15 ts z n).1 ≤ 26) ∧ (-1 ≤ (arrow15 ts z n).2 ∧ (arrow15 ts z n).2 ≤ 26) := by
  have q1 : 0 ≤ z / 5 % ((n : Int) + 3) ∧ z / 5 % ((n : Int) + 3) < (n : Int) + 3 := ⟨Int.emod_nonneg _ (by omega), Int.emod_lt_of_pos _ (by omega)⟩
  have q2 : 0 ≤ z / 35 % ((n : Int) + 3) ∧ z / 35 % ((n : Int) + 3) < (n : Int) + 3 := ⟨Int.emod_nonneg _ (by omega), Int.emod_lt_of_pos _ (by omega)⟩
  unfold arrow15
  simp only
  split
  · rename_i h
    simp only [Bool.and_eq_true, Bool.not_eq_true', List.isEmpty_eq_false_iff, decide_eq_true_eq] at h
    have hl : 0 < (sortP (bothK ts)).length := List.length_pos_iff.mpr h.1
    have q4 : 0 ≤ z / 5 % ((sortP (bothK ts)).length : Int) := Int.emod_nonneg _ (by omega)
    have q5 : z / 5 % ((sortP (bothK ts)).length : Int) < ((sortP (bothK ts)).length : Int) := Int.emod_lt_of_pos _ (by omega)
    have hm : (sortP (bothK ts)).getD ((z / 5 % ((sortP (bothK ts)).length : Int)).toNat) (0, 0) ∈ bothK ts := by
      rw [List.getD_eq_getElem?_getD, List.getElem?_eq_getElem (by omega)]
      exact (sortP_perm _).mem_iff.mp (List.getElem_mem _)
    generalize (sortP (bothK ts)).getD ((z / 5 % ((sortP (bothK ts)).length : Int)).toNat) (0, 0) = p at hm
    obtain ⟨h1, h2⟩ := adj_pt ht (bothK_adj.mp hm)
    have h1 := isPt_iff.mp h1
    have h2 := isPt_iff.mp h2
    omega
  · simp only
    omega
abbrev rArrow15 : List D → (Out → Prop) → Prop := fun ds post => ∃ (n : Nat) (ts : List (Int × Int)) (z : Int), ds = [bothD ts, .int z, .int n] ∧ (n ≤ 24 ∧ ts.length ≤ 900) ∧ post (.ret (dP (arrow15 ts z n)))
/-- whether what is asked is there -/
def there15 (ts : List (Int × Int)) (n : Nat) (way : Int) (p q : Int × Int) : Bool :=
  if (decide (way = 0) || (decide (way = 1) || decide (way = 9))) = true then (((if decide (way = 0) = true then [p.1, p.2] else [p.1]).filter fun x => decide (x < 0) || decide ((n : Int) ≤ x)).isEmpty)
  else if (decide (way = 3) || (decide (way = 4) || decide (way = 5))) = true then adj ts p.1 p.2 && (!decide (way = 5) || adj ts q.1 q.2) else true
abbrev two15 (p q : Int × Int) : D := .lst [dP p, dP q]
abbrev rThere15 : List D → (Out → Prop) → Prop := fun ds post => ∃ (n : Nat) (ts : List (Int × Int)) (way : Int) (p q : Int × Int), ds = [bothD ts, .int n, .int way, two15 p q] ∧ post (.ret (.bl (there15 ts n way p q)))
abbrev rRef15 (c : Pn.At) : List D → (Out → Prop) → Prop := fun ds post => ∃ (n : Nat) (ts : List (Int × Int)) (way : Int) (p q : Int × Int), ds = [Pn.netD c n ts, .int way, dP p, dP q] ∧ (n ≤ 24 ∧ Tied n ts ∧ (Pn.Bd p.1 ∧ Pn.Bd p.2) ∧ Pn.Bd q.1 ∧ Pn.Bd q.2) ∧ there15 ts n way p q = false ∧ post (.ret (.bl true))
theorem ints_nil {l : List Int} : eqS (.lst (l.map D.int)) (.lst []) = l.isEmpty := by
  cases l with
  | nil => exact eqS_self (sh_ints (l := []) (n := 0)) rfl
  | cons x r => exact eqS_no (sh_ints (n := 0)) (sh_ints (l := []) (n := 0)) (by simp)
section
variable {P : Program} {w : World} {K : PySem.W.Frag} {mg : Str → Option Value} {base : Heap}
abbrev s_law_arrow : Stmt := top 50
theorem sc_law_arrow : FnScope ["_law_both_here", "_law_cell", "_law_many", "_law_have"] ["_law_both_here", "_law_cell", "_law_many"] (defScope s_law_arrow) := ⟨rfl, rfl, rfl, by decide +kernel, rfl, by decide +kernel, by decide +kernel⟩
theorem ok_arrow15 {f : Addr} {fd : FuncData} (F : Fun K "_law_arrow" "_law_arrow" s_law_arrow f fd) (T : Glb mg) : FnOk P w K mg base CX0 1 f fd ["_law_both_here", "_law_cell", "_law_many"] (spD K rArrow15) := by
  have nd := sc_law_arrow.nd
  refine fn_okD F sc_law_arrow (by rintro _ _ ⟨_, _, _, rfl, _⟩; rfl) (by decide) ?_
  rintro X _ post ⟨cdv, A, outer, s, H, E, rfl⟩ hr ⟨n, ts, z, rfl, ⟨hn, hl⟩, hp⟩
  refine sxs_cons (sx_set 3 nd (EO.x (eo_sortedP (ps := bothK ts) T.sorted (EX.to (EO.x (eo_listD rfl T.list (eb_v 0))) (by rw [keys_all])))) ?_)
  unfold arrow15 at hp
  simp only at hp
  generalize sortP (bothK ts) = l at hp ⊢
  refine sxs_cons (sx_if (k := !l.isEmpty && decide (0 < z % 5)) ?_ (fun h => ?_) (fun h => sxs_nil ?_))
  · refine TX.to (WB.t (wx_and (tx_truL (eb_v 3)) (fun hB => (wx_and1 (tx_gt (EX.bo (ex_mod (eb_v 1) (EX.bo ex_int) (by first | decide | omega | assumption))) (EX.bo ex_int)))))) ?_
    cases l <;> simp
  · rw [if_pos h] at hp
    simp only [Bool.and_eq_true, Bool.not_eq_true', List.isEmpty_eq_false_iff] at h
    have hl : 0 < l.length := List.length_pos_iff.mpr h.1
    have q4 : 0 ≤ z / 5 % (l.length : Int) := Int.emod_nonneg _ (by omega)
    have q5 : z / 5 % (l.length : Int) < (l.length : Int) := Int.emod_lt_of_pos _ (by omega)
    have e0 : ((l.map dP).length : Int) = (l.length : Int) := by rw [List.length_map]
    refine sxs_one (sx_ret (ex_ixL (ex_v 3) (EX.bo (ex_mod (EX.bo (ex_fdiv (eb_v 1) (EX.bo ex_int) (by first | decide | omega | assumption))) (EX.bo (ex_lenL T.len (eb_v 3))) (by first | decide | (rw [List.length_map]; omega)))) (by rw [e0]; exact at_pairs ⟨q4, q5⟩)) ?_)
    exact hp
  · rw [if_neg (by rw [h]; decide)] at hp
    refine sxs_one (sx_ret (ex_tup (ea_cons (ex_sub (EX.bo (ex_mod (EX.bo (ex_fdiv (eb_v 1) (EX.bo ex_int) (by first | decide | omega | assumption))) (EX.bo (ex_add (eb_v 2) (EX.bo ex_int))) (by first | decide | omega))) (EX.bo ex_int)) (ea_cons (ex_sub (EX.bo (ex_mod (EX.bo (ex_fdiv (eb_v 1) (EX.bo ex_int) (by first | decide | omega | assumption))) (EX.bo (ex_add (eb_v 2) (EX.bo ex_int))) (by first | decide | omega))) (EX.bo ex_int)) ea_nil))) ?_)
    exact hp
abbrev s_law_there : Stmt := top 64
theorem sc_law_there : FnScope ["_law_both_here", "_law_many", "_law_way", "_law_arrows", "_law_points", "_law_point"] ["_law_both_here", "_law_many", "_law_way", "_law_arrows"] (defScope s_law_there) := ⟨rfl, rfl, rfl, by decide +kernel, rfl, by decide +kernel, by decide +kernel⟩
theorem ok_there15 {f : Addr} {fd : FuncData} (F : Fun K "_law_there" "_law_there" s_law_there f fd) (T : Glb mg) : FnOk P w K mg base CX0 1 f fd ["_law_both_here", "_law_many", "_law_way", "_law_arrows"] (spD K rThere15) := by
  have nd := sc_law_there.nd
  refine fn_okD F sc_law_there (by rintro _ _ ⟨_, _, _, _, _, rfl, _⟩; rfl) (by decide) ?_
  rintro X _ post ⟨cdv, A, outer, s, H, E, rfl⟩ hr ⟨n, ts, way, p, q, rfl, hp⟩
  unfold there15 at hp
  have hat : ∀ b : Bool, atI [D.lst [.int p.1], D.lst [.int p.1, .int p.2]] (if b = true then 1 else 0) = some (.lst ((if b = true then [p.1, p.2] else [p.1]).map D.int)) := fun b => by cases b <;> rfl
  refine sxs_cons (sx_if (WB.t (wx_or (tx_eqI (eb_v 2) (EX.bo ex_int)) (fun hB => (wx_or (tx_eqI (eb_v 2) (EX.bo ex_int)) (fun hB => (wx_or1 (tx_eqI (eb_v 2) (EX.bo ex_int)))))))) (fun h => ?_) (fun h => sxs_nil ?_))
  · rw [if_pos h] at hp
    refine sxs_cons (sx_set 4 nd (ex_ixL (EO.x (eo_lst (ea_cons (EO.x (eo_lst (ea_cons (ex_ixT (ex_ixL (ex_v 3) (EX.bo ex_int) (by first | exact hat _ | rfl)) (EX.bo ex_int) rfl) ea_nil))) (ea_cons (EO.x (eo_listTup T.list (ex_ixL (ex_v 3) (EX.bo ex_int) (by first | exact hat _ | rfl)))) ea_nil)))) (EX.bo (ex_intB T.int (EX.bo (ex_eqI (eb_v 2) (EX.bo ex_int))))) (by first | exact hat _ | rfl)) ?_)
    generalize hpts : (if decide (way = 0) = true then [p.1, p.2] else [p.1]) = pts at *
    have hpl : pts.length ≤ 2 := by rw [← hpts]; split <;> simp
    have hmap : (((pts.map D.int).filter fun d => match d with | .int x => decide (x < 0) || decide ((n : Int) ≤ x) | _ => false).map fun d => d) = (pts.filter fun x => decide (x < 0) || decide ((n : Int) ≤ x)).map D.int := by
      rw [List.filter_map, List.map_map]
      rfl
    refine sxs_one (sx_ret (EX.to (d' := .bl ((pts.filter fun x => decide (x < 0) || decide ((n : Int) ≤ x)).isEmpty)) (ex_eqS hr (EX.bo (EX.to (d' := .lst ((pts.filter fun x => decide (x < 0) || decide ((n : Int) ≤ x)).map D.int)) (EO.x (eo_of (pe_lc (own := [("_law_point", 5)]) (g := gName 5) rfl nd (pi_list pe_w) (blkOk_by (N := ["_law_both_here", "_law_many", "_law_way", "_law_arrows", "_law_points", "_law_point"]) (sc := defScope s_law_there) (by decide +kernel)) (fun _ _ _ _ _ => pg_name (i := 5) nd rfl (by first | exact Or.inl rfl | exact Or.inr rfl)) (pts_u) pe_u) (ro_Lif rfl (fun d => d) (fun d => match d with | .int x => decide (x < 0) || decide ((n : Int) ≤ x) | _ => false) (ex_v 4) (by rw [List.length_map]; omega) (fun j d hd => ?_) (fun j d hd hp2 _ _ _ _ _ => ex_v 5)))) (by rw [hmap]))) (EX.bo (EO.x (eo_lst ea_nil))) (sh_ints (n := 0)) (sh_ints (l := []) (n := 0))) (congrArg D.bl ints_nil)) hp)
    obtain ⟨x, _, rfl⟩ := ints_of hd
    intro _ _ _ _ _
    exact (WB.t (wx_or (tx_lt (eb_v 5) (EX.bo ex_int)) (fun hB => (wx_or1 (tx_ge (eb_v 5) (eb_v 1))))))
  rw [if_neg (by rw [h]; decide)] at hp
  refine sxs_cons (sx_if (WB.t (wx_or (tx_eqI (eb_v 2) (EX.bo ex_int)) (fun hB => (wx_or (tx_eqI (eb_v 2) (EX.bo ex_int)) (fun hB => (wx_or1 (tx_eqI (eb_v 2) (EX.bo ex_int)))))))) (fun h => ?_) (fun h => sxs_nil ?_))
  · rw [if_pos h] at hp
    exact sxs_one (sx_ret (EX.to (ex_and (EX.bo (ex_inD hr (eb_ixL (eb_v 3) (EX.bo ex_int) rfl) (eb_v 0))) (fun hB => (ex_one (ex_or (EX.bo (ex_neI (eb_v 2) (EX.bo ex_int))) (fun hB => (ex_one (ex_inD hr (eb_ixL (eb_v 3) (EX.bo ex_int) rfl) (eb_v 0)))))))) (by rw [both_has, both_has])) hp)
  · rw [if_neg (by rw [h]; decide)] at hp
    exact sxs_one (sx_ret ex_bl hp)
end
theorem there_0 {ts : List (Int × Int)} {n : Nat} {p q : Int × Int} : there15 ts n 0 p q = (isPt n p.1 && isPt n p.2) := by
  have e : there15 ts n 0 p q = ([p.1, p.2].filter fun x => decide (x < 0) || decide ((n : Int) ≤ x)).isEmpty := rfl
  rw [e, Bool.eq_iff_iff, List.isEmpty_iff, List.filter_eq_nil_iff, Bool.and_eq_true, isPt_iff, isPt_iff]
  simp
theorem there_1 {ts : List (Int × Int)} {n : Nat} {w : Int} (hw : w = 1 ∨ w = 9) {p q : Int × Int} : there15 ts n w p q = isPt n p.1 := by
  have e : there15 ts n w p q = ([p.1].filter fun x => decide (x < 0) || decide ((n : Int) ≤ x)).isEmpty := by
    rcases hw with rfl | rfl <;> rfl
  rw [e, Bool.eq_iff_iff, List.isEmpty_iff, List.filter_eq_nil_iff, isPt_iff]
  simp
theorem there_3 {ts : List (Int × Int)} {n : Nat} {w : Int} (hw : w = 3 ∨ w = 4) {p q : Int × Int} : there15 ts n w p q = adj ts p.1 p.2 := by
  have e : there15 ts n w p q = (adj ts p.1 p.2 && (true || adj ts q.1 q.2)) := by
    rcases hw with rfl | rfl <;> rfl
  rw [e]
  simp
theorem there_5 {ts : List (Int × Int)} {n : Nat} {p q : Int × Int} : there15 ts n 5 p q = (adj ts p.1 p.2 && adj ts q.1 q.2) := by
  have e : there15 ts n 5 p q = (adj ts p.1 p.2 && (false || adj ts q.1 q.2)) := rfl
  rw [e, Bool.false_or]
theorem there_no {ts : List (Int × Int)} {n : Nat} {w : Int} {p q : Int × Int} (h : there15 ts n w p q = false) : w = 0 ∨ w = 1 ∨ w = 9 ∨ w = 3 ∨ w = 4 ∨ w = 5 := by
  refine Classical.byContradiction fun z => ?_
  have e : there15 ts n w p q = true := by
    unfold there15
    rw [if_neg, if_neg]
    · simp; omega
    · simp; omega
  rw [e] at h
  cases h
section
variable {P : Program} {w : World} {K : PySem.W.Frag} {mg : Str → Option Value} {base : Heap} {c : Pn.At} {ar : Addr}
abbrev s_law_refused : Stmt := top 56
theorem sc_law_refused : FnScope ["_law_net_here", "_law_way", "_law_one", "_law_other"] ["_law_net_here", "_law_way", "_law_one", "_law_other"] (defScope s_law_refused) := ⟨rfl, rfl, rfl, by decide +kernel, rfl, by decide +kernel, by decide +kernel⟩
theorem ok_refused15 {f ft fn : Addr} {fd fdt fdn : FuncData} {pst psn : List Str} (F : Fun K "_law_refused" "_law_refused" s_law_refused f fd) (T : Pn.LawK K mg c) (hp1 : mg "NoPoint" = some (.ref c.pt)) (ha1 : mg "NoArrow" = some (.ref ar)) (x1 : PySem.W.exmOne K (.ref c.pt) (.ref c.pt) = some true) (x2 : PySem.W.exmOne K (.ref ar) (.ref c.pt) = some false) (x3 : PySem.W.exmOne K (.ref ar) (.ref ar) = some true)
    (mTied : MtC P w K mg base (L2N.CX P w) 3 c.net "tied" ft fdt pst (Pn.rTied c)) (mNear : MtC P w K mg base (L2N.CX P w) 3 c.net "near" fn fdn psn (Pn.rNear c)) (gForced : FnC P w K mg base (L2N.CX P w) 5 "forced" (Pn.rForced c ar)) (gLed : FnC P w K mg base (L2N.CX P w) 6 "led" (Pn.rLed c ar)) (gChain : FnC P w K mg base (L2N.CX P w) 6 "chain" (Pn.rChain c ar)) (gLess : FnC P w K mg base (L2N.CX P w) 5 "lessened" (Pn.rLess c)) : FnOk P w K mg base CX0 7 f fd ["_law_net_here", "_law_way", "_law_one", "_law_other"] (spD K (rRef15 c)) := by
  have nd := sc_law_refused.nd
  refine fn_okD F sc_law_refused (by rintro _ _ ⟨_, _, _, _, _, rfl, _⟩; rfl) (by decide) ?_
  rintro X _ post ⟨cdv, A, outer, s, H, E, rfl⟩ hr ⟨n, ts, way, p, q, rfl, ⟨hn, ht, hb, hb2⟩, hno, hp⟩
  refine sxs_cons (sx_try2 (Ex := fun Cl => (Cl = c.pt ∧ (way = 0 ∨ way = 1 ∨ way = 9)) ∨ (Cl = ar ∧ (way = 3 ∨ way = 4 ∨ way = 5))) ⟨rfl, by decide, .inl hp1⟩ ⟨rfl, by decide, .inl ha1⟩ (fun pn xe => ?_) (fun Cl e => ?_))
  · rcases there_no hno with rfl | rfl | rfl | rfl | rfl | rfl
    · rw [there_0] at hno
      refine sxs_one (sx_ifT (TX.to (tx_eqI (eb_v 1) (EX.bo ex_int)) rfl) (sxs_one (sx_exprX (exr_meth (post := fun o => o = .exc c.pt) (pe_methX T.cl mTied.me mTied.ok (hr.mono (by decide)) mTied.bi) (ex_v 0) rfl (ea_cons (ex_ixT (ex_v 2) (EX.bo ex_int) rfl) (ea_cons (ex_ixT (ex_v 2) (EX.bo ex_int) rfl) ea_nil)) ⟨n, ts, p.1, p.2, rfl, ⟨hn, hb⟩, fun h => (by rw [hno] at h; cases h), fun _ => rfl⟩) (fun d e => nomatch e) (fun Cl e => ⟨rfl, by cases e; exact .inl ⟨rfl, by simp⟩⟩))))
    · rw [there_1 (by simp)] at hno
      refine sxs_one (sx_ifF (TX.to (tx_eqI (eb_v 1) (EX.bo ex_int)) rfl) (sxs_one (sx_ifT (TX.to (tx_eqI (eb_v 1) (EX.bo ex_int)) rfl) (sxs_one (sx_exprX (exr_meth (post := fun o => o = .exc c.pt) (pe_methX T.cl mNear.me mNear.ok (hr.mono (by decide)) mNear.bi) (ex_v 0) rfl (ea_cons (ex_ixT (ex_v 2) (EX.bo ex_int) rfl) ea_nil) ⟨n, ts, p.1, rfl, ⟨hn, hb.1⟩, fun h => (by rw [hno] at h; cases h), fun _ => rfl⟩) (fun d e => nomatch e) (fun Cl e => ⟨rfl, by cases e; exact .inl ⟨rfl, by simp⟩⟩))))))
    · rw [there_1 (by simp)] at hno
      refine sxs_one (sx_ifF (TX.to (tx_eqI (eb_v 1) (EX.bo ex_int)) rfl) (sxs_one (sx_ifF (TX.to (tx_eqI (eb_v 1) (EX.bo ex_int)) rfl) (sxs_one (sx_ifF (TX.to (tx_eqI (eb_v 1) (EX.bo ex_int)) rfl) (sxs_one (sx_ifF (TX.to (tx_eqI (eb_v 1) (EX.bo ex_int)) rfl) (sxs_one (sx_ifF (TX.to (tx_eqI (eb_v 1) (EX.bo ex_int)) rfl) (sxs_one (sx_exprX (exr_call (post := fun o => o = .exc c.pt) gLess (hr.mono (by decide)) (ea_cons (ex_v 0) (ea_cons (ex_ixT (ex_v 2) (EX.bo ex_int) rfl) ea_nil)) (by exact ⟨n, ts, p.1, rfl, ⟨hn, hb.1⟩, fun h => (by rw [hno] at h; cases h), fun _ => rfl⟩)) (fun d e => nomatch e) (fun Cl e => ⟨rfl, by cases e; exact .inl ⟨rfl, by simp⟩⟩))))))))))))
    · rw [there_3 (by simp)] at hno
      refine sxs_one (sx_ifF (TX.to (tx_eqI (eb_v 1) (EX.bo ex_int)) rfl) (sxs_one (sx_ifF (TX.to (tx_eqI (eb_v 1) (EX.bo ex_int)) rfl) (sxs_one (sx_ifT (TX.to (tx_eqI (eb_v 1) (EX.bo ex_int)) rfl) (sxs_one (sx_exprX (exr_call (post := fun o => o = .exc ar) gForced (hr.mono (by decide)) (ea_cons (ex_v 0) (ea_cons (ex_v 2) ea_nil)) (by exact ⟨n, ts, p.1, p.2, rfl, ⟨hn, ht, hb.1, hb.2⟩, fun h => (by rw [hno] at h; cases h), fun _ => rfl⟩)) (fun d e => nomatch e) (fun Cl e => ⟨rfl, by cases e; exact .inr ⟨rfl, by simp⟩⟩))))))))
    · rw [there_3 (by simp)] at hno
      refine sxs_one (sx_ifF (TX.to (tx_eqI (eb_v 1) (EX.bo ex_int)) rfl) (sxs_one (sx_ifF (TX.to (tx_eqI (eb_v 1) (EX.bo ex_int)) rfl) (sxs_one (sx_ifF (TX.to (tx_eqI (eb_v 1) (EX.bo ex_int)) rfl) (sxs_one (sx_ifT (TX.to (tx_eqI (eb_v 1) (EX.bo ex_int)) rfl) (sxs_one (sx_exprX (exr_call (post := fun o => o = .exc ar) gLed (hr.mono (by decide)) (ea_cons (ex_v 0) (ea_cons (ex_v 2) ea_nil)) (by exact ⟨n, ts, p.1, p.2, rfl, ⟨hn, ht, hb.1, hb.2⟩, fun h => (by rw [hno] at h; cases h), fun _ => rfl⟩)) (fun d e => nomatch e) (fun Cl e => ⟨rfl, by cases e; exact .inr ⟨rfl, by simp⟩⟩))))))))))
    · rw [there_5] at hno
      refine sxs_one (sx_ifF (TX.to (tx_eqI (eb_v 1) (EX.bo ex_int)) rfl) (sxs_one (sx_ifF (TX.to (tx_eqI (eb_v 1) (EX.bo ex_int)) rfl) (sxs_one (sx_ifF (TX.to (tx_eqI (eb_v 1) (EX.bo ex_int)) rfl) (sxs_one (sx_ifF (TX.to (tx_eqI (eb_v 1) (EX.bo ex_int)) rfl) (sxs_one (sx_ifT (TX.to (tx_eqI (eb_v 1) (EX.bo ex_int)) rfl) (sxs_one (sx_exprX (exr_call (post := fun o => o = .exc ar) gChain (hr.mono (by decide)) (ea_cons (ex_v 0) (ea_cons (ex_v 2) (ea_cons (ex_v 3) ea_nil))) (by exact ⟨n, ts, p, q, rfl, ⟨hn, ht, hb, hb2⟩, fun h1 h2 => (by rw [h1, h2] at hno; cases hno), fun _ => rfl⟩)) (fun d e => nomatch e) (fun Cl e => ⟨rfl, by cases e; exact .inr ⟨rfl, by simp⟩⟩))))))))))))
  · rcases e with ⟨rfl, e⟩ | ⟨rfl, e⟩
    · refine .inl ⟨x1, fun a oe pn => sxs_one (sx_ret (EX.to (d' := .bl true) (ex_inI (ns := [0, 1, 9]) (eb_v 1) (EX.bo (EX.to (EO.x (eo_lst (ea_cons ex_int (ea_cons ex_int (ea_cons ex_int ea_nil))))) rfl))) ?_) hp)⟩
      rcases e with rfl | rfl | rfl <;> rfl
    · refine .inr ⟨x2, x3, fun a oe pn => sxs_one (sx_ret (EX.to (d' := .bl true) (ex_inI (ns := [3, 4, 5]) (eb_v 1) (EX.bo (EX.to (EO.x (eo_lst (ea_cons ex_int (ea_cons ex_int (ea_cons ex_int ea_nil))))) rfl))) ?_) hp)⟩
      rcases e with rfl | rfl | rfl <;> rfl
end
end Lw

end
section
set_option maxHeartbeats 2000000
namespace DL
open PySem PySem.Spec L2
section
variable {X : Cx} {cs : List C} {e : Expr} {pos : Pos} {F : DE}
/-- x, y = a list of two -/
theorem sx_unp2L (i j : Nat) {x y : Str} {px py pt : Pos} {k0 : Nat} {d1 d2 : D} (hcl : X.calm = true) (hN : X.N.Nodup) (h : EX X cs e (.lst [d1, d2])) (k : F.nx ((cs.set i (.sh d1)).set j (.sh d2))) (hi : X.N[i]? = some x := by rfl) (hj : X.N[j]? = some y := by rfl)
    (hx : Loc X.env.scope x := by first | exact Or.inl rfl | exact Or.inr rfl) (hy : Loc X.env.scope y := by first | exact Or.inl rfl | exact Or.inr rfl)
    (hf : X.fn x = true ∨ X.env.scope.names.lookup x = some .local := by first | exact .inl rfl | exact .inr rfl) (hf2 : X.fn y = true ∨ X.env.scope.names.lookup y = some .local := by first | exact .inl rfl | exact .inr rfl)
    (hp : ∀ te t, PE X e te → PGs X [.Name x px, .Name y py] t → PS X (.Assign [.Tuple [.Name x px, .Name y py] k0 pt] e pos) (tAsg te (gLst X.K 2 t)) := by intro _ _ h1 h2; exact ps_asg h1 (pg_lst rfl h2)) :
    SX X cs (.Assign [.Tuple [.Name x px, .Name y py] k0 pt] e pos) F := fun He Hb H0 H σ E s q =>
  wS_of (hp _ _ pe_w (pgs_cons (pg_name hN hi hx hf) (pgs_cons (pg_name hN hj hy hf2) pgs_nil))) (h _ _ _ _ _ _ s fun v H1 H01 g r => by
    cases r with
    | lst hl r =>
      cases r with
      | cons r1 r =>
        cases r with
        | cons r2 r =>
          cases r
          refine ⟨_, _, rfl, SqL.of (g.i _ _ hl), rfl, _, _, rfl, ?_⟩
          refine ⟨_, _, rfl, ?_⟩
          exact ⟨rfl, q.nx _ _ _ _ g.b (((s.grow g).set r1).set r2) k⟩)
end
end DL

end
section
set_option maxHeartbeats 2000000
namespace DL
open PySem PySem.Spec L2
theorem adjP15 {n : Nat} {ts : List (Int × Int)} (h : Tied n ts) (a b : Int) : adj (pairsL n ts) a b = adj ts a b := by
  rw [Bool.eq_iff_iff, adj_iff]
  constructor
  · rintro (z | z)
    · exact ((pairs_arrow h).mp z).2
    · rw [adj_sym]; exact ((pairs_arrow h).mp z).2
  · intro z
    rcases Int.lt_trichotomy a b with q | q | q
    · exact .inl ((pairs_arrow h).mpr ⟨q, z⟩)
    · exact absurd q (adj_ne h z)
    · exact .inr ((pairs_arrow h).mpr ⟨q, by show adj ts b a = true; rw [adj_sym]; exact z⟩)
theorem nearC15 {n : Nat} {ts us : List (Int × Int)} (e : ∀ a b, adj us a b = adj ts a b) (v : Int) : nearL n us v = nearL n ts v := by
  unfold nearL
  rw [show adj us v = adj ts v from funext fun b => e v b]
theorem rowsN_pairs {n : Nat} {ts : List (Int × Int)} (h : Tied n ts) : rowsN n (pairsL n ts) = rowsN n ts := by
  unfold rowsN
  refine List.map_congr_left fun v _ => ?_
  rw [nearC15 (adjP15 h)]
theorem pairs_tied {n : Nat} {ts : List (Int × Int)} (h : Tied n ts) : Tied n (pairsL n ts) := by
  refine ⟨fun t ht => ?_, (pairs_up n ts).imp_of_mem fun {s t} hs ht z => ⟨z.2, fun e => ?_⟩⟩
  · obtain ⟨h1, h2⟩ := (pairs_arrow h).mp ht
    obtain ⟨a, b⟩ := adj_pt h h2
    have a := isPt_iff.mp a
    have b := isPt_iff.mp b
    omega
  · have h1 := ((pairs_arrow h).mp hs).1
    have h2 := ((pairs_arrow h).mp ht).1
    rw [e] at h1
    simp only [sw] at h1
    omega
/-- what is seen of a net -/
def seenD (n : Nat) (ts : List (Int × Int)) : D := .lst [.int n, .lst (rowsN n ts), .lst ((pairsL n ts).map dP)]
def nearD (m : Nat) (us : List (Int × Int)) : D := .lst [.int m, .lst (rowsN m us), .lst (us.map dP)]
theorem seen_near {n : Nat} {ts : List (Int × Int)} (h : Tied n ts) : nearD n (pairsL n ts) = seenD n ts := by
  unfold nearD seenD
  rw [rowsN_pairs h]
theorem cmp_seen (n : Nat) (ts : List (Int × Int)) : Cmp1 (seenD n ts) := by
  refine .inr (.inr ⟨_, rfl, fun d hd => ?_⟩)
  simp only [List.mem_cons, List.not_mem_nil, or_false] at hd
  rcases hd with rfl | rfl | rfl
  · exact sh_int
  · unfold rowsN
    exact sh_map fun _ _ => sh_ints
  · exact sh_pairs
theorem cmp_ints (l : List Int) : Cmp1 (.lst (l.map D.int)) := .inr (.inr ⟨_, rfl, sh_ints⟩)
theorem cmp_pairs (l : List (Int × Int)) : Cmp1 (.lst (l.map dP)) := .inr (.inr ⟨_, rfl, sh_pairs⟩)
theorem cmp_bl (b : Bool) : Cmp1 (.bl b) := .inl ⟨b, rfl⟩
theorem nearR15 {n : Nat} {ts : List (Int × Int)} {v : Int} : ((List.range n).filter fun y : Nat => adj ts v (y : Int)).map (fun y : Nat => D.int y) = (nearL n ts v).map D.int := by
  unfold nearL pts
  rw [List.filter_map, List.map_map]
  rfl
end DL

end
section
set_option maxHeartbeats 4000000
namespace Lw
open PySem PySem.Spec L2 DL
abbrev rSeen15 (c : Pn.At) : List D → (Out → Prop) → Prop := fun ds post => ∃ (n : Nat) (ts : List (Int × Int)), ds = [Pn.netD c n ts] ∧ n ≤ 24 ∧ post (.ret (seenD n ts))
abbrev rNear15 : List D → (Out → Prop) → Prop := fun ds post => ∃ (m : Nat) (us : List (Int × Int)), ds = [.int m, .lst (us.map dP)] ∧ (m ≤ 24 ∧ us.length ≤ 1000) ∧ post (.ret (nearD m us))
abbrev rTold15 (c : Pn.At) : List D → (Out → Prop) → Prop := fun ds post => ∃ (n : Nat) (ts : List (Int × Int)) (way : Int) (p q : Int × Int), ds = [Pn.netD c n ts, bothD ts, .int n, .int way, two15 p q] ∧ (n ≤ 24 ∧ Tied n ts ∧ (Pn.Bd p.1 ∧ Pn.Bd p.2) ∧ (Pn.Bd q.1 ∧ Pn.Bd q.2)) ∧ (way = 0 ∨ way = 1 ∨ way = 2 ∨ way = 3 ∨ way = 4 ∨ way = 5 ∨ way = 9 ∨ way = 10) ∧ there15 ts n way p q = true ∧ ∀ d, Cmp1 d → post (.ret (.lst [d, d]))
section
variable {P : Program} {w : World} {K : PySem.W.Frag} {mg : Str → Option Value} {base : Heap} {c : Pn.At} {ar : Addr}
abbrev s_law_seen : Stmt := top 61
theorem sc_law_seen : FnScope ["_law_net_here", "_law_point"] ["_law_net_here"] (defScope s_law_seen) := ⟨rfl, rfl, rfl, by decide +kernel, rfl, by decide +kernel, by decide +kernel⟩
theorem ok_seen15 {f fn fp : Addr} {fd fdn fdp : FuncData} {psn psp : List Str} (F : Fun K "_law_seen" "_law_seen" s_law_seen f fd) (T : Pn.LawK K mg c) (mNear : MtC P w K mg base (L2N.CX P w) 3 c.net "near" fn fdn psn (Pn.rNear c)) (mPairs : MtC P w K mg base CX0 1 c.net "pairs" fp fdp psp (Pn.rPairs c)) : FnOk P w K mg base CX0 4 f fd ["_law_net_here"] (spD K (rSeen15 c)) := by
  have nd := sc_law_seen.nd
  refine fn_okD F sc_law_seen (by rintro _ _ ⟨_, _, rfl, _⟩; rfl) (by decide) ?_
  rintro X _ post ⟨cdv, A, outer, s, H, E, rfl⟩ hr ⟨n, ts, rfl, hn, hp⟩
  refine sxs_one (sx_ret (EO.x (eo_lst (ea_cons (ex_fld T.cl T.n_many (ex_v 0) Pn.l_many) (ea_cons (EX.to (d' := .lst (rowsN n ts)) (EO.x (eo_of (pe_lc (own := [("_law_point", 1)]) (g := gName 1) (tt := tYes) rfl nd (pi_range1 (by rfl) T.range pa_w) (blkOk_by (N := ["_law_net_here", "_law_point"]) (sc := defScope s_law_seen) (by decide +kernel)) (fun _ _ _ _ _ => pg_name (i := 1) nd rfl (by first | exact Or.inl rfl | exact Or.inr rfl)) (fun _ _ _ _ _ => pts_nil) pe_u) (ro_R rfl (fun v : Nat => .lst ((nearL n ts (v : Int)).map D.int)) (EX.bo (ex_fld T.cl T.n_many (ex_v 0) Pn.l_many)) (by omega) (by intro _ _; rfl) (fun j hj => ?_)))) (by rw [Int.toNat_natCast]; rfl)) (ea_cons (ex_meth0 (pe_meth0 pe_w T.cl mPairs.me mPairs.ok (hr.mono (by decide)) mPairs.bi .nil pass0) (ex_v 0) rfl (by exact ⟨n, ts, rfl, hn, rfl⟩)) ea_nil))))) hp)
  have hj2 : j < n := by omega
  intro _ _ _ _ _
  exact (ex_methA (pe_meth pe_w T.cl mNear.me mNear.ok (hr.mono (by decide)) mNear.bi .nil passN pa_w) (ex_v 0) rfl (ea_cons (ex_v 1) ea_nil) (by exact ⟨n, ts, (j : Int), rfl, ⟨hn, Pn.bd_small (by omega)⟩, fun _ => rfl, fun h => (by rw [Pn.isPt_of ⟨by omega, by omega⟩] at h; cases h)⟩))
abbrev s_law_near : Stmt := top 62
theorem sc_law_near : FnScope ["_law_many", "_law_due", "_law_both_here", "_law_rows", "_law_one", "_law_other"] ["_law_many", "_law_due"] (defScope s_law_near) := ⟨rfl, rfl, rfl, by decide +kernel, rfl, by decide +kernel, by decide +kernel⟩
theorem ok_near15 {f : Addr} {fd : FuncData} (F : Fun K "_law_near" "_law_near" s_law_near f fd) (T : Glb mg) (gBoth : FnC P w K mg base CX0 1 "_law_both" rBoth) : FnOk P w K mg base CX0 2 f fd ["_law_many", "_law_due"] (spD K rNear15) := by
  have nd := sc_law_near.nd
  refine fn_okD F sc_law_near (by rintro _ _ ⟨_, _, rfl, _⟩; rfl) (by decide) ?_
  rintro X _ post ⟨cdv, A, outer, s, H, E, rfl⟩ hr ⟨m, us, rfl, ⟨hm, hl⟩, hp⟩
  refine sxs_cons (sx_set 2 nd (ex_call gBoth (hr.mono (by decide)) pass0 (ea_cons (ex_v 1) ea_nil) (by exact ⟨us, rfl, by omega, rfl⟩)) (sxs_cons (sx_setO 3 nd (eo_lst ea_nil) ?_)))
  refine sxs_cons (sx_forR 4 (fun j cs => ∃ v4, cs = [.sh (.int m), .sh (.lst (us.map dP)), .sh (bothD us), .ol ((List.range j).map fun v : Nat => .lst ((nearL m us (v : Int)).map D.int)), v4, .any]) rfl nd .never T.range (eb_v 0) (by omega) ⟨_, rfl⟩ ?_ ?_)
  · rintro j _ hj ⟨v4, rfl⟩
    refine sxs_one (sx_append 3 rfl (EX.to (d' := .lst ((nearL m us (j : Int)).map D.int)) (EO.x (eo_of (pe_lc (own := [("_law_other", 5)]) (g := gName 5) rfl nd (pi_range1 (by rfl) T.range pa_w) (blkOk_by (N := ["_law_many", "_law_due", "_law_both_here", "_law_rows", "_law_one", "_law_other"]) (sc := defScope s_law_near) (by decide +kernel)) (fun _ _ _ _ _ => pg_name (i := 5) nd rfl (by first | exact Or.inl rfl | exact Or.inr rfl)) (pts_u) pe_u) (ro_Rif rfl (fun y : Nat => D.int y) (fun y : Nat => adj us (j : Int) (y : Int)) (eb_v 0) (by omega) (by intro _ _; rfl) (fun i hi => ?_) (fun i hi hp2 _ _ _ _ _ => ex_v 5)))) (by rw [Int.toNat_natCast, nearR15])) (by rw [List.length_map, List.length_range]; omega) (fun _ h1 => ps_expr (pe_bm PySem.F.plainAttrs_list PySem.F.slot_list_append PySem.F.type_list_append mt_append (pv 3) (pa_cons h1 pa_nil))) ?_)
    · intro _ _ _ _ _
      exact TX.to (tx_inD hr (EX.bo (ex_tup (ea_cons (ex_v 4) (ea_cons (ex_v 5) ea_nil)))) (eb_v 2)) (by rw [both_has])
    · refine ⟨.sh (.int (j : Int)), ?_⟩
      rw [List.range_succ, List.map_append]
      rfl
  · rintro _ ⟨v4, rfl⟩
    rw [Int.toNat_natCast]
    refine sxs_frL 3 rfl ?_
    exact sxs_one (sx_ret (EO.x (eo_lst (ea_cons (ex_v 0) (ea_cons (ex_v 3) (ea_cons (ex_v 1) ea_nil))))) hp)
end
end Lw

end
section
set_option maxHeartbeats 4000000
namespace Lw
open PySem PySem.Spec L2 DL
theorem keysN15 {ks : List ((Int × Int) × Nat)} : (D.lst ((dM nD ks).map fun p : (Int × Int) × D => D.tup [.int p.1.1, .int p.1.2])) = .lst ((ks.map (·.1)).map dP) := by
  unfold dM
  rw [List.map_map, List.map_map]
  rfl
section
variable {P : Program} {w : World} {K : PySem.W.Frag} {mg : Str → Option Value} {base : Heap} {c : Pn.At} {ar : Addr}
abbrev s_law_told : Stmt := top 58
theorem sc_law_told : FnScope ["_law_net_here", "_law_both_here", "_law_many", "_law_way", "_law_arrows", "_law_one", "_law_other", "_law_due", "_law_pair_here", "_law_low", "_law_point", "_law_high"] ["_law_net_here", "_law_both_here", "_law_many", "_law_way", "_law_arrows"] (defScope s_law_told) := ⟨rfl, rfl, rfl, by decide +kernel, rfl, by decide +kernel, by decide +kernel⟩
theorem ok_told15 {f ft fn fp : Addr} {fd fdt fdn fdp : FuncData} {pst psn psp : List Str} (F : Fun K "_law_told" "_law_told" s_law_told f fd) (T : Pn.LawK K mg c) (mTied : MtC P w K mg base (L2N.CX P w) 3 c.net "tied" ft fdt pst (Pn.rTied c)) (mNear : MtC P w K mg base (L2N.CX P w) 3 c.net "near" fn fdn psn (Pn.rNear c)) (mPairs : MtC P w K mg base CX0 1 c.net "pairs" fp fdp psp (Pn.rPairs c))
    (gForced : FnC P w K mg base (L2N.CX P w) 5 "forced" (Pn.rForced c ar)) (gLed : FnC P w K mg base (L2N.CX P w) 6 "led" (Pn.rLed c ar)) (gChain : FnC P w K mg base (L2N.CX P w) 6 "chain" (Pn.rChain c ar)) (gLess : FnC P w K mg base (L2N.CX P w) 5 "lessened" (Pn.rLess c)) (gOpp : FnC P w K mg base CX0 5 "opposite" (Pn.rOpp c))
    (gForces : FnC P w K mg base CX0 1 "_law_forces" rForces) (gDist : FnC P w K mg base CX0 2 "_law_distances" rDist) (gLeast : FnC P w K mg base CX0 3 "_law_least" rLeast) (gSeen : FnC P w K mg base CX0 4 "_law_seen" (rSeen15 c)) (gNear15 : FnC P w K mg base CX0 2 "_law_near" rNear15) : FnOk P w K mg base CX0 7 f fd ["_law_net_here", "_law_both_here", "_law_many", "_law_way", "_law_arrows"] (spD K (rTold15 c)) := by
  have nd := sc_law_told.nd
  refine fn_okD F sc_law_told (by rintro _ _ ⟨_, _, _, _, _, rfl, _⟩; rfl) (by decide) ?_
  rintro X _ post ⟨cdv, A, outer, s, H, E, rfl⟩ hr ⟨n, ts, way, p, q, rfl, ⟨hn, ht, hb, hb2⟩, hw, hth, hp⟩
  have hk := bothK_len ts
  have htl : ts.length ≤ 576 := Nat.le_trans (tied_len ht) (Nat.mul_le_mul hn hn)
  have hsl : (sortP (bothK ts)).length = (bothK ts).length := (sortP_perm _).length_eq
  refine sxs_cons (sx_unp2L 5 6 rfl nd (ex_v 4) ?_)
  refine sxs_at [.sh (Pn.netD c n ts), .sh (bothD ts), .sh (.int n), .sh (.int way), .sh (two15 p q), .sh (dP p), .sh (dP q), .any, .any, .any, .any, .any] rfl ?_
  rcases hw with rfl | rfl | rfl | rfl | rfl | rfl | rfl | rfl
  · rw [there_0] at hth
    exact sxs_cons (sx_ifT (TX.to (tx_eqI (eb_v 3) (EX.bo ex_int)) rfl) (sxs_one (sx_ret (EX.to (d' := .lst [.bl (adj ts p.1 p.2), .bl (adj ts p.1 p.2)]) (EO.x (eo_lst (ea_cons (ex_methA (pe_meth pe_w T.cl mTied.me mTied.ok (hr.mono (by decide)) mTied.bi .nil passN pa_w) (ex_v 0) rfl (ea_cons (ex_ixT (ex_v 5) (EX.bo ex_int) rfl) (ea_cons (ex_ixT (ex_v 5) (EX.bo ex_int) rfl) ea_nil)) (by exact ⟨n, ts, p.1, p.2, rfl, ⟨hn, hb⟩, fun _ => rfl, fun h => (by rw [hth] at h; cases h)⟩)) (ea_cons (ex_inD hr (EX.bo (ex_tup (ea_cons (ex_ixT (ex_v 5) (EX.bo ex_int) rfl) (ea_cons (ex_ixT (ex_v 5) (EX.bo ex_int) rfl) ea_nil)))) (eb_v 1)) ea_nil)))) (by rw [both_has])) (hp _ (cmp_bl _)))))
  · rw [there_1 (by simp)] at hth
    refine sxs_cons (sx_ifF (TX.to (tx_eqI (eb_v 3) (EX.bo ex_int)) rfl) (sxs_nil (sxs_cons (sx_ifT (TX.to (tx_eqI (eb_v 3) (EX.bo ex_int)) rfl) (sxs_one (sx_ret (EO.x (eo_lst (ea_cons (ex_methA (pe_meth pe_w T.cl mNear.me mNear.ok (hr.mono (by decide)) mNear.bi .nil passN pa_w) (ex_v 0) rfl (ea_cons (ex_ixT (ex_v 5) (EX.bo ex_int) rfl) ea_nil) (by exact ⟨n, ts, p.1, rfl, ⟨hn, hb.1⟩, fun _ => rfl, fun h => (by rw [hth] at h; cases h)⟩)) (ea_cons (EX.to (d' := .lst ((nearL n ts p.1).map D.int)) (EO.x (eo_of (pe_lc (own := [("_law_point", 10)]) (g := gName 10) rfl nd (pi_range1 (by rfl) T.range pa_w) (blkOk_by (N := ["_law_net_here", "_law_both_here", "_law_many", "_law_way", "_law_arrows", "_law_one", "_law_other", "_law_due", "_law_pair_here", "_law_low", "_law_point", "_law_high"]) (sc := defScope s_law_told) (by decide +kernel)) (fun _ _ _ _ _ => pg_name (i := 10) nd rfl (by first | exact Or.inl rfl | exact Or.inr rfl)) (pts_u) pe_u) (ro_Rif rfl (fun y : Nat => D.int y) (fun y : Nat => adj ts p.1 (y : Int)) (eb_v 2) (by omega) (by intro _ _; rfl) (fun i hi => ?_) (fun i hi hp2 _ _ _ _ _ => ex_v 10)))) (by rw [Int.toNat_natCast, nearR15])) ea_nil)))) (hp _ (cmp_ints _))))))))
    intro _ _ _ _ _
    exact TX.to (tx_inD hr (EX.bo (ex_tup (ea_cons (ex_ixT (ex_v 5) (EX.bo ex_int) rfl) (ea_cons (ex_v 10) ea_nil)))) (eb_v 1)) (by rw [both_has])
  ·
    refine sxs_cons (sx_ifF (TX.to (tx_eqI (eb_v 3) (EX.bo ex_int)) rfl) (sxs_nil (sxs_cons (sx_ifF (TX.to (tx_eqI (eb_v 3) (EX.bo ex_int)) rfl) (sxs_nil (sxs_cons (sx_ifT (TX.to (tx_eqI (eb_v 3) (EX.bo ex_int)) rfl) (sxs_one (sx_ret (EO.x (eo_lst (ea_cons (ex_meth0 (pe_meth0 pe_w T.cl mPairs.me mPairs.ok (hr.mono (by decide)) mPairs.bi .nil pass0) (ex_v 0) rfl (by exact ⟨n, ts, rfl, hn, rfl⟩)) (ea_cons (EX.to (d' := .lst ((pairsL n ts).map dP)) (EO.x (eo_sortedP (ps := (bothK ts).filter fun p => decide (p.1 < p.2)) T.sorted (EX.to (EO.x (eo_of (pe_lc (own := [("_law_pair_here", 8)]) (g := gName 8) rfl nd (pi_list pe_w) (blkOk_by (N := ["_law_net_here", "_law_both_here", "_law_many", "_law_way", "_law_arrows", "_law_one", "_law_other", "_law_due", "_law_pair_here", "_law_low", "_law_point", "_law_high"]) (sc := defScope s_law_told) (by decide +kernel)) (fun _ _ _ _ _ => pg_name (i := 8) nd rfl (by first | exact Or.inl rfl | exact Or.inr rfl)) (pts_u) pe_u) (ro_Lif rfl (fun d => d) ltD (EO.x (eo_listD rfl T.list (eb_v 1))) ?_ (fun j d hd => ?_) (fun j d hd hp _ _ _ _ _ => ex_v 8)))) (by rw [keys_lt])))) (by rw [due_pairs ht])) ea_nil)))) (hp _ (cmp_pairs _)))))))))))
    · rw [List.length_map, dk_len]
      omega
    · obtain ⟨k, rfl⟩ := keys_at hd
      intro _ _ _ _ _
      exact (tx_lt (EX.bo (ex_ixT (ex_v 8) (EX.bo ex_int) rfl)) (EX.bo (ex_ixT (ex_v 8) (EX.bo ex_int) rfl)))
  · rw [there_3 (by simp)] at hth
    exact sxs_cons (sx_ifF (TX.to (tx_eqI (eb_v 3) (EX.bo ex_int)) rfl) (sxs_nil (sxs_cons (sx_ifF (TX.to (tx_eqI (eb_v 3) (EX.bo ex_int)) rfl) (sxs_nil (sxs_cons (sx_ifF (TX.to (tx_eqI (eb_v 3) (EX.bo ex_int)) rfl) (sxs_nil (sxs_cons (sx_ifT (TX.to (tx_eqI (eb_v 3) (EX.bo ex_int)) rfl) (sxs_one (sx_ret (EO.x (eo_lst (ea_cons (ex_call gForced (hr.mono (by decide)) passN (ea_cons (ex_v 0) (ea_cons (ex_v 5) ea_nil)) (by exact ⟨n, ts, p.1, p.2, rfl, ⟨hn, ht, hb.1, hb.2⟩, fun _ => rfl, fun h => (by rw [hth] at h; cases h)⟩)) (ea_cons (ex_call gForces (hr.mono (by decide)) pass0 (ea_cons (ex_v 1) (ea_cons (ex_v 2) (ea_cons (ex_v 5) ea_nil))) (by exact ⟨n, ts, _, rfl, hn, rfl⟩)) ea_nil)))) (hp _ (cmp_pairs _))))))))))))))
  · rw [there_3 (by simp)] at hth
    exact sxs_cons (sx_ifF (TX.to (tx_eqI (eb_v 3) (EX.bo ex_int)) rfl) (sxs_nil (sxs_cons (sx_ifF (TX.to (tx_eqI (eb_v 3) (EX.bo ex_int)) rfl) (sxs_nil (sxs_cons (sx_ifF (TX.to (tx_eqI (eb_v 3) (EX.bo ex_int)) rfl) (sxs_nil (sxs_cons (sx_ifF (TX.to (tx_eqI (eb_v 3) (EX.bo ex_int)) rfl) (sxs_nil (sxs_cons (sx_ifT (TX.to (tx_eqI (eb_v 3) (EX.bo ex_int)) rfl) (sxs_one (sx_ret (EO.x (eo_lst (ea_cons (ex_call gLed (hr.mono (by decide)) passN (ea_cons (ex_v 0) (ea_cons (ex_v 5) ea_nil)) (by exact ⟨n, ts, p.1, p.2, rfl, ⟨hn, ht, hb.1, hb.2⟩, fun _ => rfl, fun h => (by rw [hth] at h; cases h)⟩)) (ea_cons (EX.to (d' := .lst ((ledL n ts p).map dP)) (EO.x (eo_sortedP (ps := (distK n ts p).map (·.1)) T.sorted (EX.to (EO.x (eo_listD rfl T.list (EX.bo (ex_call gDist (hr.mono (by decide)) pass0 (ea_cons (ex_v 1) (ea_cons (ex_v 2) (ea_cons (ex_v 5) ea_nil))) (by exact ⟨n, ts, _, rfl, ⟨hn, ht, hth⟩, rfl⟩))))) keysN15))) (by rw [dist_led hn ht (a := p) hth])) ea_nil)))) (hp _ (cmp_pairs _)))))))))))))))))
  · rw [there_5, Bool.and_eq_true] at hth
    obtain ⟨h1, h2⟩ := hth
    by_cases hre : DL.Reach (stp n ts) p q
    · obtain ⟨r, hr1, hr2⟩ := chain_has hn ht h1 hre
      exact sxs_cons (sx_ifF (TX.to (tx_eqI (eb_v 3) (EX.bo ex_int)) rfl) (sxs_nil (sxs_cons (sx_ifF (TX.to (tx_eqI (eb_v 3) (EX.bo ex_int)) rfl) (sxs_nil (sxs_cons (sx_ifF (TX.to (tx_eqI (eb_v 3) (EX.bo ex_int)) rfl) (sxs_nil (sxs_cons (sx_ifF (TX.to (tx_eqI (eb_v 3) (EX.bo ex_int)) rfl) (sxs_nil (sxs_cons (sx_ifF (TX.to (tx_eqI (eb_v 3) (EX.bo ex_int)) rfl) (sxs_nil (sxs_cons (sx_ifT (TX.to (tx_eqI (eb_v 3) (EX.bo ex_int)) rfl) (sxs_one (sx_ret (EX.to (d' := .lst [.lst (r.map dP), .lst (r.map dP)]) (EO.x (eo_lst (ea_cons (ex_call gChain (hr.mono (by decide)) passN (ea_cons (ex_v 0) (ea_cons (ex_v 5) (ea_cons (ex_v 6) ea_nil))) (by exact ⟨n, ts, p, q, rfl, ⟨hn, ht, hb, hb2⟩, fun _ _ => ⟨fun z => absurd hre z, fun l' hl' => (by rw [chain_uniq hl' hr1])⟩, fun z => (by rw [h1, h2] at z; cases z)⟩)) (ea_cons (ex_call gLeast (hr.mono (by decide)) pass0 (ea_cons (ex_v 1) (ea_cons (ex_v 2) (ea_cons (ex_v 5) (ea_cons (ex_v 6) ea_nil)))) (by exact ⟨n, ts, p, q, rfl, ⟨hn, ht, h1, h2⟩, fun z => absurd hre z, fun l' hl' => (by rw [chain_uniq hl' hr1])⟩)) ea_nil)))) rfl) (hp _ (cmp_pairs _))))))))))))))))))))
    ·
      exact sxs_cons (sx_ifF (TX.to (tx_eqI (eb_v 3) (EX.bo ex_int)) rfl) (sxs_nil (sxs_cons (sx_ifF (TX.to (tx_eqI (eb_v 3) (EX.bo ex_int)) rfl) (sxs_nil (sxs_cons (sx_ifF (TX.to (tx_eqI (eb_v 3) (EX.bo ex_int)) rfl) (sxs_nil (sxs_cons (sx_ifF (TX.to (tx_eqI (eb_v 3) (EX.bo ex_int)) rfl) (sxs_nil (sxs_cons (sx_ifF (TX.to (tx_eqI (eb_v 3) (EX.bo ex_int)) rfl) (sxs_nil (sxs_cons (sx_ifT (TX.to (tx_eqI (eb_v 3) (EX.bo ex_int)) rfl) (sxs_one (sx_ret (EX.to (d' := .lst [.non, .non]) (EO.x (eo_lst (ea_cons (ex_call gChain (hr.mono (by decide)) passN (ea_cons (ex_v 0) (ea_cons (ex_v 5) (ea_cons (ex_v 6) ea_nil))) (by exact ⟨n, ts, p, q, rfl, ⟨hn, ht, hb, hb2⟩, fun _ _ => ⟨fun _ => rfl, fun l' hl' => absurd (least_reach hl') hre⟩, fun z => (by rw [h1, h2] at z; cases z)⟩)) (ea_cons (ex_call gLeast (hr.mono (by decide)) pass0 (ea_cons (ex_v 1) (ea_cons (ex_v 2) (ea_cons (ex_v 5) (ea_cons (ex_v 6) ea_nil)))) (by exact ⟨n, ts, p, q, rfl, ⟨hn, ht, h1, h2⟩, fun _ => rfl, fun l' hl' => absurd (least_reach hl') hre⟩)) ea_nil)))) rfl) (hp _ (.inr (.inl rfl)))))))))))))))))))))
  · rw [there_1 (by simp)] at hth
    obtain ⟨a, b⟩ := p
    have hth : isPt n a = true := hth
    have hba : Pn.Bd a := hb.1
    obtain ⟨g0, g1⟩ := isPt_iff.mp hth
    obtain ⟨g, rfl⟩ := Int.eq_ofNat_of_zero_le g0
    have hgn : g < n := by omega
    have hpl : (pairsL (n - 1) (lesT n ts g)).length ≤ 576 := Nat.le_trans (tied_len (pairs_tied (upT_tied _ _))) (Nat.mul_le_mul (show n - 1 ≤ 24 by omega) (show n - 1 ≤ 24 by omega))
    refine sxs_cons (sx_ifF (TX.to (tx_eqI (eb_v 3) (EX.bo ex_int)) rfl) (sxs_nil (sxs_cons (sx_ifF (TX.to (tx_eqI (eb_v 3) (EX.bo ex_int)) rfl) (sxs_nil (sxs_cons (sx_ifF (TX.to (tx_eqI (eb_v 3) (EX.bo ex_int)) rfl) (sxs_nil (sxs_cons (sx_ifF (TX.to (tx_eqI (eb_v 3) (EX.bo ex_int)) rfl) (sxs_nil (sxs_cons (sx_ifF (TX.to (tx_eqI (eb_v 3) (EX.bo ex_int)) rfl) (sxs_nil (sxs_cons (sx_ifF (TX.to (tx_eqI (eb_v 3) (EX.bo ex_int)) rfl) (sxs_nil (sxs_cons (sx_ifT (TX.to (tx_eqI (eb_v 3) (EX.bo ex_int)) rfl) (sxs_cons (sx_setO 7 nd (eo_lst ea_nil) ?_)))))))))))))))))))))
    refine sxs_cons (sx_forL 8 (fun j cs => ∃ v8, cs = [.sh (Pn.netD c n ts), .sh (bothD ts), .sh (.int n), .sh (.int 9), .sh (two15 ((g : Int), b) q), .sh (dP ((g : Int), b)), .sh (dP q), .ol ((dueL ts g ((sortP (bothK ts)).take j)).map dP), v8, .any, .any, .any]) rfl nd .never (EO.x (eo_sortedP (ps := bothK ts) T.sorted (EX.to (EO.x (eo_listD rfl T.list (eb_v 1))) (by rw [keys_all])))) ⟨_, rfl⟩ ?_ ?_)
    · rintro j d _ hd ⟨v8, rfl⟩
      obtain ⟨q, hq, rfl⟩ := map_at hd
      have hj := (List.getElem?_eq_some_iff.mp hq).1
      have hdl := dueL_len (ts := ts) (p := g) (l := (sortP (bothK ts)).take j)
      rw [List.length_take] at hdl
      have hs : (sortP (bothK ts)).take (j + 1) = (sortP (bothK ts)).take j ++ [q] := by rw [List.take_add_one, hq]; rfl
      have hsz : ((dueL ts g ((sortP (bothK ts)).take j)).map dP).length < 1000000 := by rw [List.length_map]; omega
      refine sxs_one (sx_if (k := decide (q.1 < q.2) && !decide ((g : Int) ∈ [q.1, q.2])) ?_ (fun h => ?_) (fun h => sxs_nil ?_))
      · exact (WB.t (wx_and (tx_lt (eb_ixT (eb_v 8) (EX.bo ex_int) rfl) (eb_ixT (eb_v 8) (EX.bo ex_int) rfl)) (fun hB => (wx_and1 (tx_ninT (ns := [q.1, q.2]) (eb_ixT (eb_v 5) (EX.bo ex_int) rfl) (eb_v 8))))))
      · refine sxs_one (sx_append 7 rfl (ex_tup (ea_cons (ex_sub (eb_ixT (eb_v 8) (EX.bo ex_int) rfl) (EX.bo (ex_intB T.int (EX.bo (ex_gt (eb_ixT (eb_v 8) (EX.bo ex_int) rfl) (eb_ixT (eb_v 5) (EX.bo ex_int) rfl)))))) (ea_cons (ex_sub (eb_ixT (eb_v 8) (EX.bo ex_int) rfl) (EX.bo (ex_intB T.int (EX.bo (ex_gt (eb_ixT (eb_v 8) (EX.bo ex_int) rfl) (eb_ixT (eb_v 5) (EX.bo ex_int) rfl)))))) ea_nil))) hsz (fun _ h1 => ps_expr (pe_bm PySem.F.plainAttrs_list PySem.F.slot_list_append PySem.F.type_list_append mt_append (pv 7) (pa_cons h1 pa_nil))) ?_)
        rw [hs, dueL_snoc, if_pos h, List.map_append]
        refine ⟨.sh (dP q), ?_⟩
        have e : ∀ x : Int, x - (if decide ((g : Int) < x) = true then 1 else 0) = lessI x g := fun x => by
          unfold lessI
          by_cases q : (g : Int) < x
          · rw [if_pos (decide_eq_true q), if_pos q]
          · rw [if_neg (by simpa using q), if_neg q]
        rw [← e, ← e]
        rfl
      · rw [hs, dueL_snoc, if_neg (by rw [h]; decide), List.append_nil]
        exact ⟨_, rfl⟩
    · rintro _ ⟨v8, rfl⟩
      rw [List.length_map, List.take_length, due_less ht hgn]
      refine sxs_frL 7 rfl ?_
      exact sxs_one (sx_ret (EX.to (d' := .lst [seenD (n - 1) (lesT n ts g), seenD (n - 1) (lesT n ts g)]) (EO.x (eo_lst (ea_cons (ex_call gSeen (hr.mono (by decide)) pass0 (ea_cons (ex_call gLess (hr.mono (by decide)) passN (ea_cons (ex_v 0) (ea_cons (ex_ixT (ex_v 5) (EX.bo ex_int) rfl) ea_nil)) (by exact ⟨n, ts, (g : Int), rfl, ⟨hn, hba⟩, fun _ => rfl, fun h => (by rw [hth] at h; cases h)⟩)) ea_nil) (by exact ⟨n - 1, lesT n ts g, rfl, by omega, rfl⟩)) (ea_cons (ex_call gNear15 (hr.mono (by decide)) pass0 (ea_cons (ex_sub (eb_v 2) (EX.bo ex_int)) (ea_cons (ex_v 7) ea_nil)) (by exact ⟨n - 1, pairsL (n - 1) (lesT n ts g), by rw [show (n : Int) - 1 = ((n - 1 : Nat) : Int) by omega], ⟨by omega, by omega⟩, rfl⟩)) ea_nil)))) (by rw [seen_near (n := n - 1) (ts := lesT n ts g) (upT_tied _ _)])) (hp _ (cmp_seen _ _)))
  · have hpl : (pairsL n (oppT n ts)).length ≤ 576 := Nat.le_trans (tied_len (pairs_tied (upT_tied _ _))) (Nat.mul_le_mul hn hn)
    refine sxs_cons (sx_ifF (TX.to (tx_eqI (eb_v 3) (EX.bo ex_int)) rfl) (sxs_nil (sxs_cons (sx_ifF (TX.to (tx_eqI (eb_v 3) (EX.bo ex_int)) rfl) (sxs_nil (sxs_cons (sx_ifF (TX.to (tx_eqI (eb_v 3) (EX.bo ex_int)) rfl) (sxs_nil (sxs_cons (sx_ifF (TX.to (tx_eqI (eb_v 3) (EX.bo ex_int)) rfl) (sxs_nil (sxs_cons (sx_ifF (TX.to (tx_eqI (eb_v 3) (EX.bo ex_int)) rfl) (sxs_nil (sxs_cons (sx_ifF (TX.to (tx_eqI (eb_v 3) (EX.bo ex_int)) rfl) (sxs_nil (sxs_cons (sx_ifF (TX.to (tx_eqI (eb_v 3) (EX.bo ex_int)) rfl) (sxs_nil (sxs_cons (sx_setO 7 nd (eo_lst ea_nil) ?_))))))))))))))))))))))
    refine sxs_frL 7 rfl ?_
    refine sxs_cons (sx_forR 9 (fun j cs => ∃ v9, cs = [.sh (Pn.netD c n ts), .sh (bothD ts), .sh (.int n), .sh (.int 10), .sh (two15 p q), .sh (dP p), .sh (dP q), .sh (.lst (((List.range j).flatMap fun a => rowO ts a (n - (a + 1))).map dP)), .any, v9, .any, .any]) rfl nd .never T.range (eb_v 2) (by omega) ⟨_, rfl⟩ ?_ ?_)
    · rintro j _ hj ⟨v9, rfl⟩
      have hbl : ((List.range j).flatMap fun a => rowO ts a (n - (a + 1))).length ≤ 576 := by
        have h1 := len_flat (f := fun a => rowO ts a (n - (a + 1))) (B := 24) (l := List.range j) fun a _ => Nat.le_trans rowO_len (by omega)
        rw [List.length_range] at h1
        omega
      have hrl := rowO_len (ts := ts) (a := j) (i := n - (j + 1))
      have hro : ((List.range ((n : Int) - ((j + 1 : Nat) : Int)).toNat).filter fun t : Nat => !adj ts (j : Int) (((j + 1 : Nat) : Int) + (t : Int))).map (fun t : Nat => dP ((j : Int), ((j + 1 : Nat) : Int) + (t : Int))) = (rowO ts j (n - (j + 1))).map dP := by
        rw [show ((n : Int) - ((j + 1 : Nat) : Int)).toNat = n - (j + 1) by omega]
        unfold rowO
        rw [List.map_map]
        rfl
      refine sxs_one (sx_set 7 nd (EX.to (d' := .lst ((((List.range j).flatMap fun a => rowO ts a (n - (a + 1))) ++ rowO ts j (n - (j + 1))).map dP)) (EO.x (eo_cat (ex_v 7) (EX.to (d' := .lst ((rowO ts j (n - (j + 1))).map dP)) (EO.x (eo_of (pe_lc (own := [("_law_high", 11)]) (g := gName 11) rfl nd (pi_range2 (by rfl) T.range pa_w) (blkOk_by (N := ["_law_net_here", "_law_both_here", "_law_many", "_law_way", "_law_arrows", "_law_one", "_law_other", "_law_due", "_law_pair_here", "_law_low", "_law_point", "_law_high"]) (sc := defScope s_law_told) (by decide +kernel)) (fun _ _ _ _ _ => pg_name (i := 11) nd rfl (by first | exact Or.inl rfl | exact Or.inr rfl)) (pts_u) pe_u) (ro_R2if rfl (fun t : Nat => dP ((j : Int), ((j + 1 : Nat) : Int) + (t : Int))) (fun t : Nat => !adj ts (j : Int) (((j + 1 : Nat) : Int) + (t : Int))) (EX.bo (EX.to (d' := .int ((j + 1 : Nat) : Int)) (ex_add (eb_v 9) (EX.bo ex_int)) rfl)) (eb_v 2) (by omega) (by intro _ _; rfl) (by intro _ _; rfl) (fun i hi => ?_) (fun i hi hp2 _ _ _ _ _ => (ex_tup (ea_cons (ex_v 9) (ea_cons (ex_v 11) ea_nil))))))) (by rw [hro])) (by rw [List.length_map, List.length_map]; omega))) (by rw [List.map_append])) ?_)
      · intro _ _ _ _ _
        exact TX.to (tx_ninD hr (EX.bo (ex_tup (ea_cons (ex_v 9) (ea_cons (ex_v 11) ea_nil)))) (eb_v 1)) (by rw [both_has])
      · refine ⟨.sh (.int (j : Int)), ?_⟩
        rw [List.range_succ, List.flatMap_append]
        simp
    · rintro _ ⟨v9, rfl⟩
      rw [Int.toNat_natCast, ← opp_rows]
      exact sxs_one (sx_ret (EX.to (d' := .lst [seenD n (oppT n ts), seenD n (oppT n ts)]) (EO.x (eo_lst (ea_cons (ex_call gSeen (hr.mono (by decide)) pass0 (ea_cons (ex_call gOpp (hr.mono (by decide)) pass0 (ea_cons (ex_v 0) ea_nil) (by exact ⟨n, ts, rfl, hn, rfl⟩)) ea_nil) (by exact ⟨n, oppT n ts, rfl, hn, rfl⟩)) (ea_cons (ex_call gNear15 (hr.mono (by decide)) pass0 (ea_cons (ex_v 2) (ea_cons (ex_v 7) ea_nil)) (by exact ⟨n, pairsL n (oppT n ts), rfl, ⟨hn, by omega⟩, rfl⟩)) ea_nil)))) (by rw [seen_near (n := n) (ts := oppT n ts) (upT_tied _ _)])) (hp _ (cmp_seen _ _)))
end
end Lw

end
section
set_option maxHeartbeats 4000000
namespace Lw
open PySem PySem.Spec L2 DL
theorem two_at15 (t : Int × Int) (b : Bool) : atI [D.tup [.int t.2, .int t.1], D.tup [.int t.1, .int t.2]] (if b = true then 1 else 0) = some (dP (if b = true then t else sw t)) := by cases b <;> rfl
theorem net_pairs15 {c : Pn.At} {n : Nat} {ts : List (Int × Int)} (ht : Tied n ts) : Pn.netD c n (pairsL n ts) = Pn.netD c n ts := by
  unfold Pn.netD
  rw [rowsN_pairs ht]
abbrev rTurned15 (c : Pn.At) : List D → (Out → Prop) → Prop := fun ds post => ∃ (n : Nat) (ts : List (Int × Int)) (way : Int) (p q : Int × Int), ds = [Pn.netD c n ts, bothD ts, .int n, .int way, two15 p q] ∧ (n ≤ 24 ∧ Tied n ts) ∧ (way = 6 ∨ way = 7 ∨ way = 8) ∧ post (.ret (.bl true))
section
variable {P : Program} {w : World} {K : PySem.W.Frag} {mg : Str → Option Value} {base : Heap} {c : Pn.At} {cx : Addr}
abbrev s_law_turned : Stmt := top 63
theorem sc_law_turned : FnScope ["_law_net_here", "_law_both_here", "_law_many", "_law_way", "_law_arrows", "_law_row", "_law_pair_here", "_law_up", "_law_told_here", "_law_good"] ["_law_net_here", "_law_both_here", "_law_many", "_law_way", "_law_arrows"] (defScope s_law_turned) := ⟨rfl, rfl, rfl, by decide +kernel, rfl, by decide +kernel, by decide +kernel⟩
theorem ok_turned15 {f fm : Addr} {fd fdm : FuncData} {psm : List Str} (F : Fun K "_law_turned" "_law_turned" s_law_turned f fd) (T : Pn.LawK K mg c) (hc1 : mg "Clash" = some (.ref cx)) (x1 : PySem.W.exmOne K (.ref cx) (.ref cx) = some true) (gBit : FnC P w K mg base CX0 2 "_law_bit" rBit) (gFits : FnC P w K mg base CX0 2 "fits" (Pn.rFits c)) (gTurns : FnC P w K mg base CX0 3 "_law_turns" rTurns) (gTurned : FnC P w K mg base CX0 7 "turned" (Pn.rTurned c)) (gToldPair : FnC P w K mg base CX0 1 "_law_told_pair" rToldPair)
    (gClashes : FnC P w K mg base CX0 3 "_law_clashes" rClashes) (gColoured : FnC P w K mg base (L2N.CX P w) 8 "coloured" (Pn.rColoured c cx)) (gRight : FnC P w K mg base CX0 3 "_law_right" rRight13) (mNet : Pn.MkC P w K mg base c fm fdm psm) : FnOk P w K mg base CX0 9 f fd ["_law_net_here", "_law_both_here", "_law_many", "_law_way", "_law_arrows"] (spD K (rTurned15 c)) := by
  have nd := sc_law_turned.nd
  refine fn_okD F sc_law_turned (by rintro _ _ ⟨_, _, _, _, _, rfl, _⟩; rfl) (by decide) ?_
  rintro X _ post ⟨cdv, A, outer, s, H, E, rfl⟩ hr ⟨n, ts, way, p, q, rfl, ⟨hn, ht⟩, hw, hp⟩
  have hk := bothK_len ts
  have htl : ts.length ≤ 576 := Nat.le_trans (tied_len ht) (Nat.mul_le_mul hn hn)
  have hpl : (pairsL n ts).length ≤ 576 := Nat.le_trans (tied_len (pairs_tied ht)) (Nat.mul_le_mul hn hn)
  have hlen := turned_len hn ht
  rcases hw with rfl | rfl | rfl
  · refine sxs_cons (sx_ifT (TX.to (tx_eqI (eb_v 3) (EX.bo ex_int)) rfl) (sxs_cons (sx_setO 5 nd (eo_lst ea_nil) ?_)))
    refine sxs_cons (sx_forL 6 (fun j cs => ∃ (as : List (Int × Int)) (v6 v7 : C), as.length = j ∧ cs = [.sh (Pn.netD c n ts), .sh (bothD ts), .sh (.int n), .sh (.int 6), .sh (two15 p q), .ol (as.map dP), v6, v7, .any, .any]) rfl nd .never (EX.to (d' := .lst ((pairsL n ts).map dP)) (EO.x (eo_sortedP (ps := (bothK ts).filter fun p => decide (p.1 < p.2)) T.sorted (EX.to (EO.x (eo_of (pe_lc (own := [("_law_pair_here", 6)]) (g := gName 6) rfl nd (pi_list pe_w) (blkOk_by (N := ["_law_net_here", "_law_both_here", "_law_many", "_law_way", "_law_arrows", "_law_row", "_law_pair_here", "_law_up", "_law_told_here", "_law_good"]) (sc := defScope s_law_turned) (by decide +kernel)) (fun _ _ _ _ _ => pg_name (i := 6) nd rfl (by first | exact Or.inl rfl | exact Or.inr rfl)) (pts_u) pe_u) (ro_Lif rfl (fun d => d) ltD (EO.x (eo_listD rfl T.list (eb_v 1))) ?_ (fun j d hd => ?_) (fun j d hd hp _ _ _ _ _ => ex_v 6)))) (by rw [keys_lt])))) (by rw [due_pairs ht])) ⟨[], _, _, rfl, rfl⟩ ?_ ?_)
    · rw [List.length_map, dk_len]
      omega
    · obtain ⟨k, rfl⟩ := keys_at hd
      intro _ _ _ _ _
      exact (tx_lt (EX.bo (ex_ixT (ex_v 6) (EX.bo ex_int) rfl)) (EX.bo (ex_ixT (ex_v 6) (EX.bo ex_int) rfl)))
    · rintro j d _ hd ⟨as, v6, v7, hal, rfl⟩
      obtain ⟨t, htj, rfl⟩ := map_at hd
      have hj := (List.getElem?_eq_some_iff.mp htj).1
      refine sxs_cons (sx_set 7 nd (ex_or (EX.bo (ex_lt (eb_ixT (eb_ixL (eb_v 4) (EX.bo ex_int) rfl) (EX.bo ex_int) rfl) (EX.bo ex_int))) (fun hB => (ex_one (ex_call gBit (hr.mono (by decide)) pass0 (ea_cons (ex_add (EX.bo (ex_add (EX.bo (ex_mul (eb_ixT (eb_ixL (eb_v 4) (EX.bo ex_int) rfl) (EX.bo ex_int) rfl) (EX.bo ex_int) (.inr (by decide)))) (eb_ixT (eb_ixL (eb_v 4) (EX.bo ex_int) rfl) (EX.bo ex_int) rfl))) (EX.bo ex_int)) (ea_cons (ex_lenL T.len (eb_v 5)) ea_nil)) (by exact ⟨_, _, rfl, (by rw [List.length_map]; omega), rfl⟩))))) ?_)
      refine sxs_at [.sh (Pn.netD c n ts), .sh (bothD ts), .sh (.int n), .sh (.int 6), .sh (two15 p q), .ol (as.map dP), .sh (dP t), .sh (.bl (decide (p.1 < 3) || bit (p.1 * 31 + q.2 + 40) ((as.map dP).length : Int))), .any, .any] rfl ?_
      generalize (decide (p.1 < 3) || bit (p.1 * 31 + q.2 + 40) ((as.map dP).length : Int)) = b
      refine sxs_one (sx_append 5 rfl (ex_ixL (EO.x (eo_lst (ea_cons (ex_tup (ea_cons (ex_ixT (ex_v 6) (EX.bo ex_int) rfl) (ea_cons (ex_ixT (ex_v 6) (EX.bo ex_int) rfl) ea_nil))) (ea_cons (ex_v 6) ea_nil)))) (EX.bo (ex_intB T.int (eb_v 7))) (two_at15 t b)) (by rw [List.length_map]; omega) (fun _ h1 => ps_expr (pe_bm PySem.F.plainAttrs_list PySem.F.slot_list_append PySem.F.type_list_append mt_append (pv 5) (pa_cons h1 pa_nil))) ?_)
      refine ⟨as ++ [if b = true then t else sw t], .sh (dP t), .sh (.bl b), by rw [List.length_append, hal]; rfl, ?_⟩
      rw [List.map_append]
      rfl
    · rintro _ ⟨as, v6, v7, hal, rfl⟩
      rw [List.length_map] at hal
      refine sxs_frL 5 rfl ?_
      refine sxs_cons (sx_set 8 nd (ex_call gFits (hr.mono (by decide)) pass0 (ea_cons (ex_v 0) (ea_cons (ex_v 5) ea_nil)) (by exact ⟨n, ts, as, rfl, ⟨hn, by omega⟩, rfl⟩)) (sxs_one (sx_ret (EX.to (d' := .bl true) (ex_and (EX.bo (ex_isi (T := "bool") T.isinst T.bool (eb_v 8) (by decide +kernel) (by first | exact ki_tb | exact ki_lb | exact ki_ib | exact ki_bb | exact ki_nb))) (fun hB => (ex_one (ex_eqB (eb_v 8) (EX.bo (ex_call gTurns (hr.mono (by decide)) pass0 (ea_cons (ex_v 1) (ea_cons (ex_v 5) ea_nil)) (by exact ⟨ts, as, rfl, by omega, rfl⟩))))))) ?_) hp)))
      rw [fit_turns ht fun _ _ => rfl]
      cases turnsB ts as <;> rfl
  ·
    refine sxs_cons (sx_ifF (TX.to (tx_eqI (eb_v 3) (EX.bo ex_int)) rfl) (sxs_nil (sxs_cons (sx_ifT (TX.to (tx_eqI (eb_v 3) (EX.bo ex_int)) rfl) (sxs_cons (sx_set 8 nd (ex_call gTurned (hr.mono (by decide)) pass0 (ea_cons (ex_v 0) ea_nil) (by exact ⟨n, ts, rfl, ⟨hn, ht⟩, rfl⟩)) (sxs_cons (sx_ifF (TX.to (k := !true) (tx_not (tx_val (EX.bo (ex_call gToldPair (hr.mono (by decide)) pass0 (ea_cons (ex_v 8) ea_nil) (by exact ⟨_, _, rfl, rfl⟩))))) rfl) (sxs_nil ?_)))))))))
    refine sxs_at [.sh (Pn.netD c n ts), .sh (bothD ts), .sh (.int n), .sh (.int 7), .sh (two15 p q), .any, .any, .any, .sh (turnedD n ts), .any] rfl ?_
    refine sxs_one (sx_ret (ex_if (k := (turnedK n ts).1) (tx_val (EX.bo (ex_ixT (ex_v 8) (EX.bo ex_int) rfl))) (fun hI => ?_) (fun hI => ?_)) hp)
    · rcases turned_ok hn ht with ⟨h1, h2⟩ | ⟨h1, h2⟩
      ·
        exact EX.to (ex_call gTurns (hr.mono (by decide)) pass0 (ea_cons (ex_v 1) (ea_cons (ex_ixT (ex_v 8) (EX.bo ex_int) rfl) ea_nil)) (by exact ⟨ts, _, rfl, by omega, rfl⟩)) (by rw [turnsB_ok h2])
      · rw [h1] at hI
        cases hI
    · rcases turned_ok hn ht with ⟨h1, h2⟩ | ⟨h1, h2⟩
      · rw [h1] at hI
        cases hI
      · exact (ex_call gClashes (hr.mono (by decide)) pass0 (ea_cons (ex_v 1) (ea_cons (ex_v 2) (ea_cons (ex_ixT (ex_v 8) (EX.bo ex_int) rfl) ea_nil))) (by exact ⟨n, ts, _, rfl, ⟨hn, ht, h2⟩, rfl⟩))
  · have hmk : Pn.rNew c [.int n, .lst ((pairsL n ts).map dP)] (fun o => o = .ret (Pn.netD c n (pairsL n ts))) := by
      have hu := pairs_tied ht
      have hsc : scan n [] (pairsL n ts) = 0 := scan_tied (by rw [List.nil_append]; exact hu)
      refine ⟨n, pairsL n ts, rfl, ⟨Pn.bd_small (by omega), by omega, fun t h => ?_⟩, fun h => (h (by omega)).elim, fun _ => ⟨fun _ => rfl, fun h => (by rw [hsc] at h; cases h), fun h => (by rw [hsc] at h; cases h)⟩⟩
      obtain ⟨a, b, c, d, _⟩ := hu.1 t h
      exact ⟨Pn.bd_small (by omega), Pn.bd_small (by omega)⟩
    refine sxs_cons (sx_ifF (TX.to (tx_eqI (eb_v 3) (EX.bo ex_int)) rfl) (sxs_nil (sxs_cons (sx_ifF (TX.to (tx_eqI (eb_v 3) (EX.bo ex_int)) rfl) (sxs_nil (sxs_cons (sx_set 9 nd (ex_ixT (ex_call gTurned (hr.mono (by decide)) pass0 (ea_cons (EX.to (d' := Pn.netD c n ts) (ex_make (R := Pn.rNew c) (d := Pn.netD c n (pairsL n ts)) (pe_make mNet.made mNet.ok (hr.mono (by decide)) rfl mNet.g mNet.bi .nil passN pa_w) (eab_cons (eb_v 2) (eab_cons (EX.bo (EX.to (d' := .lst ((pairsL n ts).map dP)) (EO.x (eo_sortedP (ps := (bothK ts).filter fun p => decide (p.1 < p.2)) T.sorted (EX.to (EO.x (eo_of (pe_lc (own := [("_law_pair_here", 6)]) (g := gName 6) rfl nd (pi_list pe_w) (blkOk_by (N := ["_law_net_here", "_law_both_here", "_law_many", "_law_way", "_law_arrows", "_law_row", "_law_pair_here", "_law_up", "_law_told_here", "_law_good"]) (sc := defScope s_law_turned) (by decide +kernel)) (fun _ _ _ _ _ => pg_name (i := 6) nd rfl (by first | exact Or.inl rfl | exact Or.inr rfl)) (pts_u) pe_u) (ro_Lif rfl (fun d => d) ltD (EO.x (eo_listD rfl T.list (eb_v 1))) ?_ (fun j d hd => ?_) (fun j d hd hp _ _ _ _ _ => ex_v 6)))) (by rw [keys_lt])))) (by rw [due_pairs ht]))) eab_nil)) hmk) (net_pairs15 ht)) ea_nil) (by exact ⟨n, ts, rfl, ⟨hn, ht⟩, rfl⟩)) (EX.bo ex_int) rfl) ?_)))))))
    · rw [List.length_map, dk_len]
      omega
    · obtain ⟨k, rfl⟩ := keys_at hd
      intro _ _ _ _ _
      exact (tx_lt (EX.bo (ex_ixT (ex_v 6) (EX.bo ex_int) rfl)) (EX.bo (ex_ixT (ex_v 6) (EX.bo ex_int) rfl)))
    refine sxs_at [.sh (Pn.netD c n ts), .sh (bothD ts), .sh (.int n), .sh (.int 8), .sh (two15 p q), .any, .any, .any, .any, .sh (.bl (turnedK n ts).1)] rfl ?_
    rcases turned_ok hn ht with ⟨h1, h2⟩ | ⟨h1, h2⟩
    · rw [h1]
      refine sxs_cons (sx_try1 (Ex := fun _ => False) ⟨rfl, by decide, .inl hc1⟩ (fun pn xe => sxs_one (sx_set 8 nd (ex_call gColoured (hr.mono (by decide)) passN (ea_cons (ex_v 0) ea_nil) (by exact ⟨n, ts, rfl, ⟨hn, ht⟩, fun z => (by rw [h1] at z; cases z), fun _ => rfl⟩)) ?_)) (fun _ e => e.elim) (fun _ e => e.elim))
      exact sxs_one (sx_ret (EX.to (d' := .bl true) (ex_and (eb_v 9) (fun hB => (ex_one (ex_call gRight (hr.mono (by decide)) pass0 (ea_cons (ex_v 1) (ea_cons (ex_v 2) (ea_cons (ex_v 8) ea_nil))) (by exact ⟨n, ts, _, rfl, ⟨hn, ht, h2, by omega⟩, rfl⟩))))) rfl) hp)
    · rw [h1]
      refine sxs_cons (sx_try1 (Ex := fun Cl => Cl = cx) ⟨rfl, by decide, .inl hc1⟩ (fun pn xe => ?_) (fun Cl e => by rw [e]; exact x1) (fun Cl e x2 oe pn => sxs_one (sx_ret (EX.to (d' := .bl true) (ex_not (eb_v 9)) rfl) hp)))
      exact sxs_one (sx_setX 8 nd (exr_call (post := fun o => o = .exc cx) gColoured (hr.mono (by decide)) (ea_cons (ex_v 0) ea_nil) (by exact ⟨n, ts, rfl, ⟨hn, ht⟩, fun _ => rfl, fun h => (by rw [h1] at h; cases h)⟩)) (fun d e => nomatch e) (fun Cl e => ⟨rfl, by cases e; rfl⟩))
end
end Lw

end
section
set_option maxHeartbeats 4000000
namespace Lw
open PySem PySem.Spec L2 DL
theorem most_at15 (b : Bool) : ∃ m : Int, (0 ≤ m ∧ m ≤ 63) ∧ atI [D.int 12, D.int 24] (if b = true then 1 else 0) = some (.int m) := by
  cases b
  · exact ⟨12, by omega, rfl⟩
  · exact ⟨24, by omega, rfl⟩
theorem nets_at15 (d : D) (x : Int) : atI [d, d] (x % 4 / 3) = some d := by
  have h1 : 0 ≤ x % 4 := Int.emod_nonneg _ (by decide)
  have h2 : x % 4 < 4 := Int.emod_lt_of_pos _ (by decide)
  have h3 : x % 4 / 3 = 0 ∨ x % 4 / 3 = 1 := by omega
  rcases h3 with h | h <;> rw [h] <;> rfl
theorem held_no15 {ds : List D} : (ds.filter fun _ => false).map (fun d => d) = [] := by
  rw [List.filter_eq_nil_iff.mpr (fun _ _ => by simp)]
  rfl
section
variable {P : Program} {w : World} {K : PySem.W.Frag} {mg : Str → Option Value} {base : Heap} {c : Pn.At}
abbrev slaw : Stmt := top 65
theorem sclaw : FnScope ["_law_script", "_law_many", "_law_ties", "_law_both_here", "_law_nets", "_law_held", "_law_most", "_law_k", "_law_cell", "_law_way", "_law_net_here", "_law_arrows", "_law_told_here"] ["_law_script"] (defScope slaw) := ⟨rfl, rfl, rfl, by decide +kernel, rfl, by decide +kernel, by decide +kernel⟩
theorem ok_law {f fm : Addr} {fd fdm : FuncData} {psm : List Str} (F : Fun K "law" "law" slaw f fd) (T : Pn.LawK K mg c) (hmin : mg "min" = none) (gCell : FnC P w K mg base CX0 1 "_law_cell_at" rCell) (gNet : FnC P w K mg base CX0 5 "_law_net" rNet) (gBoth : FnC P w K mg base CX0 1 "_law_both" rBoth) (gArrow : FnC P w K mg base CX0 1 "_law_arrow" rArrow15) (gThere : FnC P w K mg base CX0 1 "_law_there" rThere15) (gRefused : FnC P w K mg base CX0 7 "_law_refused" (rRef15 c))
    (gTurned15 : FnC P w K mg base CX0 9 "_law_turned" (rTurned15 c)) (gTold : FnC P w K mg base CX0 7 "_law_told" (rTold15 c)) (mNet : Pn.MkC P w K mg base c fm fdm psm) : FnOk P w K mg base CX0 10 f fd ["_law_script"] (spD K rLaw) := by
  have nd := sclaw.nd
  refine fn_okD F sclaw (by rintro _ _ ⟨_, rfl, _⟩; rfl) (by decide) ?_
  rintro X _ post ⟨cdv, A, outer, s, H, E, rfl⟩ hr ⟨ns, rfl, hp⟩
  have hn := netN_bd ns
  have ht := net_tied ns
  have hl := net_len ns
  refine sxs_cons (sx_unp2 1 2 rfl nd (ex_call gNet (hr.mono (by decide)) pass0 (ea_cons (ex_v 0) ea_nil) ⟨_, rfl, rfl⟩) ?_)
  generalize netT ns = ts at *
  generalize netN ns = n at *
  have hmk : Pn.rNew c [.int n, .lst (ts.map dP)] (fun o => o = .ret (Pn.netD c n ts)) := by
    have hsc : scan n [] ts = 0 := scan_tied (by rw [List.nil_append]; exact ht)
    refine ⟨n, ts, rfl, ⟨Pn.bd_small (by omega), by omega, fun t h => ?_⟩, fun h => (h (by omega)).elim, fun _ => ⟨fun _ => rfl, fun h => (by rw [hsc] at h; cases h), fun h => (by rw [hsc] at h; cases h)⟩⟩
    obtain ⟨a, b, c, d, _⟩ := ht.1 t h
    exact ⟨Pn.bd_small (by omega), Pn.bd_small (by omega)⟩
  refine sxs_cons (sx_set 3 nd (ex_call gBoth (hr.mono (by decide)) pass0 (ea_cons (ex_v 2) ea_nil) ⟨_, rfl, (by omega), rfl⟩) (sxs_cons (sx_set 4 nd (EX.to (d' := .lst [Pn.netD c n ts, Pn.netD c n ts]) (EO.x (eo_lst (ea_cons (ex_make (R := Pn.rNew c) (d := Pn.netD c n ts) (pe_make mNet.made mNet.ok (hr.mono (by decide)) rfl mNet.g mNet.bi .nil passN pa_w) (eab_cons (eb_v 1) (eab_cons (EX.bo (EO.x (eo_list T.list (ex_v 2)))) eab_nil)) hmk) (ea_cons (ex_make (R := Pn.rNew c) (d := Pn.netD c n ts) (pe_make mNet.made mNet.ok (hr.mono (by decide)) rfl mNet.g mNet.bi .nil passN pa_w) (eab_cons (eb_v 1) (eab_cons (EX.bo (EO.x (eo_list T.list (ex_v 2)))) eab_nil)) hmk) ea_nil)))) rfl) (sxs_cons (sx_setO 5 nd (eo_lst ea_nil) ?_)))))
  obtain ⟨m0, hm0, hat0⟩ := most_at15 (decide (cellAt ns 1 / 64 % 8 = 1))
  refine sxs_cons (sx_set 6 nd (ex_ixL (EO.x (eo_lst (ea_cons ex_int (ea_cons ex_int ea_nil)))) (EX.bo (ex_intB T.int (EX.bo (ex_eqI (EX.bo (ex_mod (EX.bo (ex_fdiv (EX.bo (ex_call gCell (hr.mono (by decide)) pass0 (ea_cons (ex_v 0) (ea_cons ex_int ea_nil)) ⟨_, _, rfl, (by decide), rfl⟩)) (EX.bo ex_int) (by decide))) (EX.bo ex_int) (by decide))) (EX.bo ex_int))))) hat0) ?_)
  refine sxs_ifP (fun cs => ∃ m : Int, (0 ≤ m ∧ m ≤ 63) ∧ cs = [.sh (.scr ns), .sh (.int n), .sh (.lst (ts.map dP)), .sh (bothD ts), .sh (.lst [Pn.netD c n ts, Pn.netD c n ts]), .ol [], .sh (.int m), .any, .any, .any, .any, .any, .any]) (tx_lt (eb_v 1) (EX.bo ex_int)) (fun _ => sxs_one (sx_set 6 nd ex_int ⟨63, by omega, rfl⟩)) (fun _ => sxs_nil ⟨m0, hm0, rfl⟩) ?_
  rintro _ ⟨m, hm, rfl⟩
  have hL : -1000000 ≤ (if m < (ns.length : Int) then m else (ns.length : Int)) ∧ (if m < (ns.length : Int) then m else (ns.length : Int)) ≤ 63 ∧ (if m < (ns.length : Int) then m else (ns.length : Int)) ≤ ns.length := by
    split <;> omega
  refine sxs_cons (sx_forR2 7 (fun j cs => ∃ (hs : List D) (v7 v8 v9 v10 v11 v12 : C), hs.length ≤ j ∧ (∀ d ∈ hs, Cmp1 d) ∧ cs = [.sh (.scr ns), .sh (.int n), .sh (.lst (ts.map dP)), .sh (bothD ts), .sh (.lst [Pn.netD c n ts, Pn.netD c n ts]), .ol (hs.map fun d => D.lst [d, d]), .sh (.int m), v7, v8, v9, v10, v11, v12]) rfl nd .never T.range (EX.bo ex_int) (EX.bo (ex_min2 rfl hmin (ex_lenS T.len (eb_v 0)) (ex_v 6))) (by omega) ⟨[], _, _, _, _, _, _, by simp, nofun, rfl⟩ ?_ ?_)
  · rintro j _ hj ⟨hs, v7, v8, v9, v10, v11, v12, hhl, hhc, rfl⟩
    generalize (if m < (ns.length : Int) then m else (ns.length : Int)) = L at *
    have hj4 : 4 + j < ns.length := by omega
    have hatk : atI ns ((4 : Int) + (j : Int)) = some (ns[4 + j]) := by
      rw [show (4 : Int) + (j : Int) = ((4 + j : Nat) : Int) by omega]
      exact atI_nat (List.getElem?_eq_getElem hj4)
    generalize ns[4 + j] = x at hatk
    refine sxs_cons (sx_set 8 nd (ex_add (EX.bo (ex_ixS (ex_v 0) (eb_v 7) (by first | exact hatk | exact nets_at15 _ _))) (EX.bo (ex_mul (EX.bo ex_int) (eb_v 7) (by first | (right; constructor <;> decide) | (left; constructor <;> omega))))) (sxs_cons (sx_set 9 nd (ex_mod (eb_v 8) (EX.bo ex_int) (by decide)) (sxs_cons (sx_set 10 nd (ex_ixL (ex_v 4) (EX.bo (ex_fdiv (EX.bo (ex_mod (EX.bo (ex_fdiv (eb_v 8) (EX.bo ex_int) (by decide))) (EX.bo ex_int) (by decide))) (EX.bo ex_int) (by decide))) (by first | exact hatk | exact nets_at15 _ _)) (sxs_cons (sx_set 11 nd (EO.x (eo_lst (ea_cons (ex_call gArrow (hr.mono (by decide)) pass0 (ea_cons (ex_v 3) (ea_cons (ex_fdiv (eb_v 8) (EX.bo ex_int) (by decide)) (ea_cons (ex_v 1) ea_nil))) (by exact ⟨n, ts, _, rfl, ⟨hn, by omega⟩, rfl⟩)) (ea_cons (ex_call gArrow (hr.mono (by decide)) pass0 (ea_cons (ex_v 3) (ea_cons (ex_fdiv (eb_v 8) (EX.bo ex_int) (by decide)) (ea_cons (ex_v 1) ea_nil))) (by exact ⟨n, ts, _, rfl, ⟨hn, by omega⟩, rfl⟩)) ea_nil)))) ?_)))))))
    generalize x + 7 * ((4 : Int) + (j : Int)) = cell
    have hb1 := arrow15_bd (z := cell / 44) hn ht
    have hb2 := arrow15_bd (z := cell / 17) hn ht
    generalize arrow15 ts (cell / 44) n = p at *
    generalize arrow15 ts (cell / 17) n = q at *
    have hway : 0 ≤ cell % 11 ∧ cell % 11 < 11 := ⟨Int.emod_nonneg _ (by decide), Int.emod_lt_of_pos _ (by decide)⟩
    generalize cell % 11 = way at *
    have hB1 : Pn.Bd p.1 ∧ Pn.Bd p.2 := ⟨Pn.bd_small (by omega), Pn.bd_small (by omega)⟩
    have hB2 : Pn.Bd q.1 ∧ Pn.Bd q.2 := ⟨Pn.bd_small (by omega), Pn.bd_small (by omega)⟩
    refine sxs_at [.sh (.scr ns), .sh (.int n), .sh (.lst (ts.map dP)), .sh (bothD ts), .sh (.lst [Pn.netD c n ts, Pn.netD c n ts]), .ol (hs.map fun d => D.lst [d, d]), .sh (.int m), .sh (.int (4 + (j : Int))), .sh (.int cell), .sh (.int way), .sh (Pn.netD c n ts), .sh (two15 p q), v12] rfl ?_
    refine sxs_one (sx_if (k := !there15 ts n way p q) (tx_not (tx_val (EX.bo (ex_call gThere (hr.mono (by decide)) pass0 (ea_cons (ex_v 3) (ea_cons (ex_v 1) (ea_cons (ex_v 9) (ea_cons (ex_v 11) ea_nil)))) (by exact ⟨n, ts, way, p, q, rfl, rfl⟩))))) (fun h => ?_) (fun h => ?_))
    · have hno : there15 ts n way p q = false := by simpa using h
      exact sxs_one (sx_ifF (TX.to (k := !true) (tx_not (tx_val (EX.bo (ex_call gRefused (hr.mono (by decide)) pass0 (ea_cons (ex_v 10) (ea_cons (ex_v 9) (ea_cons (ex_ixL (ex_v 11) (EX.bo ex_int) rfl) (ea_cons (ex_ixL (ex_v 11) (EX.bo ex_int) rfl) ea_nil)))) (by exact ⟨n, ts, way, p, q, rfl, ⟨hn, ht, hB1, hB2⟩, hno, rfl⟩))))) rfl) (sxs_nil ⟨hs, _, _, _, _, _, _, by omega, hhc, rfl⟩))
    · have hyes : there15 ts n way p q = true := by simpa using h
      refine sxs_one (sx_if (k := decide (way ∈ [6, 7, 8])) (tx_inI (ns := [6, 7, 8]) (eb_v 9) (EX.bo (EX.to (EO.x (eo_lst (ea_cons ex_int (ea_cons ex_int (ea_cons ex_int ea_nil))))) rfl))) (fun h2 => ?_) (fun h2 => ?_))
      · have hw : way = 6 ∨ way = 7 ∨ way = 8 := by simpa using h2
        exact sxs_one (sx_ifF (TX.to (k := !true) (tx_not (tx_val (EX.bo (ex_call gTurned15 (hr.mono (by decide)) pass0 (ea_cons (ex_v 10) (ea_cons (ex_v 3) (ea_cons (ex_v 1) (ea_cons (ex_v 9) (ea_cons (ex_v 11) ea_nil))))) (by exact ⟨n, ts, way, p, q, rfl, ⟨hn, ht⟩, hw, rfl⟩))))) rfl) (sxs_nil ⟨hs, _, _, _, _, _, _, by omega, hhc, rfl⟩))
      · have hnw : ¬ (way = 6 ∨ way = 7 ∨ way = 8) := by simpa using h2
        have hw : way = 0 ∨ way = 1 ∨ way = 2 ∨ way = 3 ∨ way = 4 ∨ way = 5 ∨ way = 9 ∨ way = 10 := by omega
        refine sxs_cons (sx_setX 12 nd (exr_call0 (post := fun o => ∃ d, Cmp1 d ∧ o = .ret (.lst [d, d])) gTold (hr.mono (by decide)) pass0 (ea_cons (ex_v 10) (ea_cons (ex_v 3) (ea_cons (ex_v 1) (ea_cons (ex_v 9) (ea_cons (ex_v 11) ea_nil))))) (by exact ⟨n, ts, way, p, q, rfl, ⟨hn, ht, hB1, hB2⟩, hw, hyes, fun d hd => ⟨d, hd, rfl⟩⟩) (by rintro _ ⟨_, _, e⟩; cases e)) ?_ (fun _ z => z.elim))
        rintro _ ⟨d, hd, e⟩
        cases e
        refine sxs_at [.sh (.scr ns), .sh (.int n), .sh (.lst (ts.map dP)), .sh (bothD ts), .sh (.lst [Pn.netD c n ts, Pn.netD c n ts]), .ol (hs.map fun d => D.lst [d, d]), .sh (.int m), .sh (.int (4 + (j : Int))), .sh (.int cell), .sh (.int way), .sh (Pn.netD c n ts), .sh (two15 p q), .sh (.lst [d, d])] rfl ?_
        refine sxs_cons (sx_ifF ?_ (sxs_nil ?_))
        · have hd0 := hd
          rcases hd with ⟨b, rfl⟩ | rfl | ⟨xs, rfl, hsh⟩
          · exact TX.to (k := false || (false != false)) (WB.t (wx_or (tx_neSelf hr (EX.bo (ex_ixL (ex_v 12) (EX.bo ex_int) rfl)) (EX.bo (ex_ixL (ex_v 12) (EX.bo ex_int) rfl)) hd0) (fun hB => wx_or1 (tx_neB (EX.bo (ex_isi (T := "list") T.isinst T.list (eb_ixL (eb_v 12) (EX.bo ex_int) rfl) (by decide +kernel) (by first | exact ki_tl | exact ki_ll | exact ki_il | exact ki_bl | exact ki_nl))) (EX.bo (ex_isi (T := "list") T.isinst T.list (eb_ixL (eb_v 12) (EX.bo ex_int) rfl) (by decide +kernel) (by first | exact ki_tl | exact ki_ll | exact ki_il | exact ki_bl | exact ki_nl))))))) rfl
          · exact TX.to (k := false || (false != false)) (WB.t (wx_or (tx_neSelf hr (EX.bo (ex_ixL (ex_v 12) (EX.bo ex_int) rfl)) (EX.bo (ex_ixL (ex_v 12) (EX.bo ex_int) rfl)) hd0) (fun hB => wx_or1 (tx_neB (EX.bo (ex_isi (T := "list") T.isinst T.list (eb_ixL (eb_v 12) (EX.bo ex_int) rfl) (by decide +kernel) (by first | exact ki_tl | exact ki_ll | exact ki_il | exact ki_bl | exact ki_nl))) (EX.bo (ex_isi (T := "list") T.isinst T.list (eb_ixL (eb_v 12) (EX.bo ex_int) rfl) (by decide +kernel) (by first | exact ki_tl | exact ki_ll | exact ki_il | exact ki_bl | exact ki_nl))))))) rfl
          · exact TX.to (k := false || (true != true)) (WB.t (wx_or (tx_neSelf hr (EX.bo (ex_ixL (ex_v 12) (EX.bo ex_int) rfl)) (EX.bo (ex_ixL (ex_v 12) (EX.bo ex_int) rfl)) hd0) (fun hB => wx_or1 (tx_neB (EX.bo (ex_isi (T := "list") T.isinst T.list (eb_ixL (eb_v 12) (EX.bo ex_int) rfl) (by decide +kernel) (by first | exact ki_tl | exact ki_ll | exact ki_il | exact ki_bl | exact ki_nl))) (EX.bo (ex_isi (T := "list") T.isinst T.list (eb_ixL (eb_v 12) (EX.bo ex_int) rfl) (by decide +kernel) (by first | exact ki_tl | exact ki_ll | exact ki_il | exact ki_bl | exact ki_nl))))))) rfl
        · refine sxs_one (sx_append 5 rfl (ex_v 12) (by rw [List.length_map]; omega) (fun _ h1 => ps_expr (pe_bm PySem.F.plainAttrs_list PySem.F.slot_list_append PySem.F.type_list_append mt_append (pv 5) (pa_cons h1 pa_nil))) ?_)
          refine ⟨hs ++ [d], _, _, _, _, _, _, by rw [List.length_append, List.length_singleton]; omega, fun y hy => ?_, by rw [List.map_append]; rfl⟩
          rcases List.mem_append.mp hy with hy | hy
          · exact hhc y hy
          · rw [List.mem_singleton.mp hy]
            exact hd
  · rintro _ ⟨hs, v7, v8, v9, v10, v11, v12, hhl, hhc, rfl⟩
    refine sxs_frL 5 rfl ?_
    refine sxs_one (sx_ret (EX.to (d' := .bl true) (ex_eqS hr (EX.bo (EX.to (d' := .lst []) (EO.x (eo_of (pe_lc (own := [("_law_told_here", 12)]) (g := gName 12) rfl nd (pi_list pe_w) (blkOk_by (N := ["_law_script", "_law_many", "_law_ties", "_law_both_here", "_law_nets", "_law_held", "_law_most", "_law_k", "_law_cell", "_law_way", "_law_net_here", "_law_arrows", "_law_told_here"]) (sc := defScope slaw) (by decide +kernel)) (fun _ _ _ _ _ => pg_name (i := 12) nd rfl (by first | exact Or.inl rfl | exact Or.inr rfl)) (pts_u) pe_u) (ro_Lif rfl (fun d => d) (fun _ => false) (ex_v 5) (by rw [List.length_map]; omega) (fun i d hd => ?_) (fun i d hd hp2 _ _ _ _ _ => ex_v 12)))) (congrArg D.lst held_no15))) (EX.bo (EO.x (eo_lst ea_nil))) (sh_ints (l := []) (n := 0)) (sh_ints (l := []) (n := 0))) (congrArg D.bl (eqS_self (sh_ints (l := []) (n := 0)) rfl))) hp)
    rw [List.getElem?_map] at hd
    obtain ⟨y, hy, rfl⟩ := Option.map_eq_some_iff.mp hd
    intro _ _ _ _ _
    exact tx_neSelf hr (EX.bo (ex_ixL (ex_v 12) (EX.bo ex_int) rfl)) (EX.bo (ex_ixL (ex_v 12) (EX.bo ex_int) rfl)) (hhc y (List.mem_of_getElem? hy))
end
end Lw

end
section
set_option maxHeartbeats 2000000
/-! the head's facts as tests of a part of the heap -/
namespace Hd
open PySem PySem.Spec PyProof.Rows L2 He
abbrev Fb : Type := PySem.W.Frag → Bool
def obsB (fs : List Fb) (fn : List FnD) (K : PySem.W.Frag) : Al := ((fs.all fun f => f K) && fn.all fun d => (Fa.code d.at_ d.qual).ok K, fn.map fun d => fnObs K d.at_)
def SaysB (fs : List Fb) (fn : List FnD) (K : PySem.W.Frag) : Prop := obsB fs fn K = valE fn
def obsBG (n : Nat) (fs : List Fb) (fn : List FnD) (g : Addr → Option Obj) : Al := obsB fs fn (frG g (asG g n))
def hookB (n : Nat) (fs : List Fb) (fn : List FnD) : PySem.W.Hook where
  α := Al
  obs := fun s => obsBG n fs fn s.heap.get?
  val := fun _ => valE fn
  says := fun _ h => ∃ K : PySem.W.Frag, K.In h ∧ SaysB fs fn K
  of := fun _ _ e => ⟨_, frG_in, e⟩
  keeps := fun _ _ _ ⟨K, hK, c⟩ k => ⟨K, PySem.W.Frag.In.keeps hK k, c⟩
theorem obsBG_eq {n : Nat} {fs : List Fb} {fn : List FnD} {g : Addr → Option Obj} {s : Shared} (h : ∀ a, g a = s.heap.get? a) : obsBG n fs fn g = (hookB n fs fn).obs s := by
  have e : g = s.heap.get? := funext h
  rw [e] <;> rfl
section
variable {fs : List Fb} {fn : List FnD} {K : PySem.W.Frag}
theorem SaysB.fact (c : SaysB fs fn K) (i : Nat) {f : Fb} (h : fs[i]? = some f := by rfl) : f K = true := by
  have c1 := (ba (show ((fs.all fun f => f K) && fn.all fun d => (Fa.code d.at_ d.qual).ok K) = true from congrArg (fun z : Al => z.1) c)).1
  exact List.all_eq_true.mp c1 f (List.mem_of_getElem? h)
theorem SaysB.def_ (c : SaysB fs fn K) (i : Nat) {d : FnD} (h : fn[i]? = some d := by rfl) :
    ∃ oc od osl kV doc pm an cdv ct, K.lookup (fAd K d.at_) = some ⟨oc, od, .func (PySem.W.fnOf d.name d.qual d.params d.body d.scope .none kV doc pm an cdv ct), osl⟩ ∧ PySem.W.codeIn K cdv d.qual = true := by
  have c2 := (ba (show ((fs.all fun f => f K) && fn.all fun d => (Fa.code d.at_ d.qual).ok K) = true from congrArg (fun z : Al => z.1) c)).2
  have e : fn.map (fun d => fnObs K d.at_) = fn.map FnD.val := congrArg (fun z : Al => z.2) c
  have e2 : (fn.map fun d => fnObs K d.at_)[i]? = (fn.map FnD.val)[i]? := by rw [e]
  rw [List.getElem?_map, List.getElem?_map, h] at e2
  exact fn_ok (Option.some.inj e2) (List.all_eq_true.mp c2 d (List.mem_of_getElem? h))
def gD (x : Str) (st : Stmt) : FnD := ⟨(x, none), x, x, defArgs st, defBody st, defScope st⟩
def mD (c m q : Str) (st : Stmt) : FnD := ⟨(c, some m), m, q, defArgs st, defBody st, defScope st⟩
theorem SaysB.g (c : SaysB fs fn K) (i : Nat) {x : Str} {st : Stmt} (k : PySem.W.keepIn K (.ref (ga K x)) = true) (h : fn[i]? = some (gD x st) := by rfl) : ∃ fd, Fun K x x st (ga K x) fd := by
  obtain ⟨oc, od, osl, kV, doc, pm, an, cdv, ct, l, cd⟩ := c.def_ i h
  exact ⟨_, fun_mk (st := st) l cd k⟩
theorem SaysB.m (c : SaysB fs fn K) (i : Nat) {C m q : Str} {st : Stmt} (k : PySem.W.keepIn K (.ref (ma K (ga K C) m)) = true) (h : fn[i]? = some (mD C m q st) := by rfl) : ∃ fd, Fun K m q st (ma K (ga K C) m) fd := by
  obtain ⟨oc, od, osl, kV, doc, pm, an, cdv, ct, l, cd⟩ := c.def_ i h
  exact ⟨_, fun_mk (st := st) l cd k⟩
end
theorem one_arg {K : PySem.W.Frag} {x q p : Str} {st : Stmt} {f : Addr} {fd : FuncData} (F : Fun K x q st f fd) (h : ∀ (kV doc pm : Value) (an : Option Addr) (cdv ct u : Value), bindArgs (PySem.W.fnOf x q (defArgs st) (defBody st) (defScope st) .none kV doc pm an cdv ct) ⟨[u], []⟩ = pure [(p, u)]) (s : Shared) (u : Value) : BindsTo s fd ⟨[u], []⟩ [(p, u)] := by
  obtain ⟨oc, od, kV, doc, pm, an, cdv, ct, osl, rfl, lk, hcd⟩ := F.ex
  exact .of_eq (h kV doc pm an cdv ct u)
/-- tests -/
def fa (f : Fa) : Fb := f.ok
def kitB2 (x y : Str) (b : Bool) : Fb := fun K => decide (PySem.W.kitOne K (.ref (ga K x)) (.ref (ga K y)) = some b)
def kitBT (x : Str) (T : String) (b : Bool) : Fb := fun K => decide (PySem.W.kitOne K (.ref (ga K x)) (.type T) = some b)
def excB (x : Str) : Fb := fun K => eqO (PySem.W.findIn K (.ref (ga K x)) "__getattribute__") (some (some (.builtin "BaseException.__getattribute__"))) && (eqO (PySem.W.findIn K (.ref (ga K x)) "__getattr__") (some none) && (decide (PySem.W.subIn K (.ref (ga K x)) (.type "BaseException") = some true) && (PySem.W.hasDictIn K (ga K x) &&
  (eqO (PySem.W.findIn K (.ref (ga K x)) "__class__") (some (some (.builtin "object.__class__"))) && (eqO (PySem.W.specialIn K (.builtin "object.__class__") "__get__") (some (some (.builtin "getset_descriptor.__get__"))) && (decide (PySem.W.takesIn K (.builtin "object.__class__") = some true) && decide (PySem.W.mroIn K (ga K x) (.type "object") = some true)))))))
theorem excB_ok {K : PySem.W.Frag} {x : Str} (h : excB x K = true) : ExcC K (ga K x) := by
  obtain ⟨h1, h⟩ := ba h
  obtain ⟨h2, h⟩ := ba h
  obtain ⟨h3, h⟩ := ba h
  obtain ⟨h4, h⟩ := ba h
  obtain ⟨h5, h⟩ := ba h
  obtain ⟨h6, h⟩ := ba h
  obtain ⟨h7, h8⟩ := ba h
  exact ⟨eqO_ok h1, eqO_ok h2, of_decide_eq_true h3, h4, eqO_ok h5, eqO_ok h6, of_decide_eq_true h7, of_decide_eq_true h8⟩
end Hd

end
section
set_option maxHeartbeats 0
namespace E15
open PySem PySem.Spec PyProof.Rows L2 DL Hd
def fn : List He.FnD := [gD "is_point" Pn.sis_point, gD "need_points" Pn.sneed_points, gD "need_point" Pn.sneed_point, gD "_rows_of" Pn.s_rows_of, gD "opposite" Pn.sopposite, gD "lessened" Pn.slessened, gD "_need_arrows" Pn.s_need_arrows, gD "heights" Pn.sheights, gD "longest" Pn.slongest, gD "_need_arrow" Pn.s_need_arrow, gD "_at_once" Pn.s_at_once, gD "_ahead" Pn.s_ahead, gD "forced" Pn.sforced, gD "led" Pn.sled, gD "chain" Pn.schain, gD "gaps" Pn.sgaps, gD "fits" Pn.sfits, gD "turned" Pn.sturned, gD "coloured" Pn.scoloured, mD "Net" "__init__" "Net.__init__" Pn.sNet___init__, mD "Net" "tied" "Net.tied" Pn.sNet_tied, mD "Net" "near" "Net.near" Pn.sNet_near, mD "Net" "pairs" "Net.pairs" Pn.sNet_pairs, gD "_law_cell_at" Lw.s_law_cell_at, gD "_law_whole" Lw.s_law_whole, gD "_law_alike" Lw.s_law_alike, gD "_law_drawn" Lw.s_law_drawn, gD "_law_order" Lw.s_law_order, gD "_law_bit" Lw.s_law_bit, gD "_law_above" Lw.s_law_above, gD "_law_reached" Lw.s_law_reached, gD "_law_ringed" Lw.s_law_ringed, gD "_law_made" Lw.s_law_made, gD "_law_net" Lw.s_law_net, gD "_law_both" Lw.s_law_both, gD "_law_listed" Lw.s_law_listed, gD "_law_forces" Lw.s_law_forces, gD "_law_arrow" Lw.s_law_arrow, gD "_law_distances" Lw.s_law_distances, gD "_law_turns" Lw.s_law_turns, gD "_law_pair" Lw.s_law_pair, gD "_law_clashes" Lw.s_law_clashes, gD "_law_told_pair" Lw.s_law_told_pair, gD "_law_refused" Lw.s_law_refused, gD "_law_least" Lw.s_law_least, gD "_law_told" Lw.s_law_told, gD "_law_wholes" Lw.s_law_wholes, gD "_law_right" Lw.s_law_right, gD "_law_seen" Lw.s_law_seen, gD "_law_near" Lw.s_law_near, gD "_law_turned" Lw.s_law_turned, gD "_law_there" Lw.s_law_there, gD "law" Lw.slaw]
def fs : List Fb := [fa (.keep "is_point"), fa (.glo "is_point"), fa (.keep "need_points"), fa (.glo "need_points"), fa (.keep "need_point"), fa (.glo "need_point"), fa (.keep "_rows_of"), fa (.glo "_rows_of"), fa (.keep "opposite"), fa (.glo "opposite"), fa (.keep "lessened"), fa (.glo "lessened"), fa (.keep "_need_arrows"), fa (.glo "_need_arrows"), fa (.keep "heights"), fa (.glo "heights"), fa (.keep "longest"), fa (.glo "longest"), fa (.keep "_need_arrow"), fa (.glo "_need_arrow"), fa (.keep "_at_once"), fa (.glo "_at_once"), fa (.keep "_ahead"), fa (.glo "_ahead"), fa (.keep "forced"), fa (.glo "forced"), fa (.keep "led"), fa (.glo "led"), fa (.keep "chain"), fa (.glo "chain"), fa (.keep "gaps"), fa (.glo "gaps"), fa (.keep "fits"), fa (.glo "fits"), fa (.keep "turned"), fa (.glo "turned"), fa (.keep "coloured"), fa (.glo "coloured"), fa (.meth "Net" "__init__"), fa (.meth "Net" "tied"), fa (.meth "Net" "near"), fa (.meth "Net" "pairs"), fa (.keep "_law_cell_at"), fa (.glo "_law_cell_at"), fa (.keep "_law_whole"), fa (.glo "_law_whole"), fa (.keep "_law_alike"), fa (.glo "_law_alike"), fa (.keep "_law_drawn"), fa (.glo "_law_drawn"), fa (.keep "_law_order"), fa (.glo "_law_order"), fa (.keep "_law_bit"), fa (.glo "_law_bit"), fa (.keep "_law_above"), fa (.glo "_law_above"), fa (.keep "_law_reached"), fa (.glo "_law_reached"), fa (.keep "_law_ringed"), fa (.glo "_law_ringed"), fa (.keep "_law_made"), fa (.glo "_law_made"), fa (.keep "_law_net"), fa (.glo "_law_net"), fa (.keep "_law_both"), fa (.glo "_law_both"), fa (.keep "_law_listed"), fa (.glo "_law_listed"), fa (.keep "_law_forces"), fa (.glo "_law_forces"), fa (.keep "_law_arrow"), fa (.glo "_law_arrow"), fa (.keep "_law_distances"), fa (.glo "_law_distances"), fa (.keep "_law_turns"), fa (.glo "_law_turns"), fa (.keep "_law_pair"), fa (.glo "_law_pair"), fa (.keep "_law_clashes"), fa (.glo "_law_clashes"), fa (.keep "_law_told_pair"), fa (.glo "_law_told_pair"), fa (.keep "_law_refused"), fa (.glo "_law_refused"), fa (.keep "_law_least"), fa (.glo "_law_least"), fa (.keep "_law_told"), fa (.glo "_law_told"), fa (.keep "_law_wholes"), fa (.glo "_law_wholes"), fa (.keep "_law_right"), fa (.glo "_law_right"), fa (.keep "_law_seen"), fa (.glo "_law_seen"), fa (.keep "_law_near"), fa (.glo "_law_near"), fa (.keep "_law_turned"), fa (.glo "_law_turned"), fa (.keep "_law_there"), fa (.glo "_law_there"), fa (.keep "law"), fa (.glo "law"), fa (.free "len"), fa (.free "range"), fa (.free "list"), fa (.free "tuple"), fa (.free "sorted"), fa (.free "isinstance"), fa (.free "int"), fa (.free "bool"), fa (.cls "Net"), fa (.noat "Net" "many"), fa (.noat "Net" "_rows"), fa (.exc "NoPoints"), fa (.glo "NoPoints"), fa (.exc "NoPoint"), fa (.glo "NoPoint"), fa (.exc "NoTie"), fa (.glo "NoTie"), fa (.exc "TwiceTold"), fa (.glo "TwiceTold"), fa (.int "MOST_POINTS" 24), fa (.mkr "Net"), fa (.glo "Net"), fa (.exc "Round"), fa (.glo "Round"), fa (.exc "Clash"), fa (.glo "Clash"), fa (.free "min"), fa (.free "max"), fa (.exc "NoArrow"), fa (.glo "NoArrow"), fa (.free "set"), fa (.exm "NoPoint" "NoPoint" true), fa (.exm "NoArrow" "NoPoint" false), fa (.exm "NoArrow" "NoArrow" true), fa (.exm "Clash" "Clash" true)]
def loose : List PySem.Str := (["TieError", "NoPoints", "NoPoint", "NoTie", "TwiceTold", "NoArrow", "Round", "Clash", "MOST_POINTS", "is_point", "need_points", "need_point", "_rows_of", "Net", "opposite", "lessened", "_need_arrow", "_at_once", "_ahead", "forced"] : List PySem.Str) ++ (["led", "chain", "_need_arrows", "heights", "longest", "gaps", "fits", "turned", "coloured", "_law_cell_at", "_law_whole", "_law_alike", "_law_drawn", "_law_order", "_law_bit", "_law_above", "_law_reached", "_law_ringed", "_law_made", "_law_net"] : List PySem.Str) ++ (["_law_both", "_law_listed", "_law_forces", "_law_arrow", "_law_distances", "_law_turns", "_law_pair", "_law_clashes", "_law_told_pair", "_law_refused", "_law_least", "_law_told", "_law_wholes", "_law_right", "_law_seen", "_law_near", "_law_turned", "_law_there"] : List PySem.Str)
abbrev R : PySem.W.OpenRow := PySem.W.OpenLaw.row PySem.Challenge.rw_arrowties_k15_whole_asked_in_any_order
abbrev hk : PySem.W.Hook := hookB 5 fs fn
def ob (s : PySem.W.SharedT) : He.Al := obsBG 5 fs fn (HandSHeadRun.getT s)
theorem ob_eq (s : PySem.W.SharedT) : ob s = hk.obs s.abs := obsBG_eq (HandSHeadRun.getT_eq s)
theorem run (w : World) : HandSHeadRun.RunEq R (PySem.W.view R.prog [65]) hk ob 12000 loose w := by
  intro os
  kernel_rfl
theorem facts {P : Program} {w : World} {K : PySem.W.Frag} {h : Heap} {mg : Str → Option Value} {f : Addr} (X : K.In h) (G : h.Ns mainGlobals mg) (hfa : mg ("law" : Str) = some (.ref f)) (c : SaysB fs fn K) :
    ∃ fd : FuncData, (∀ (s : Shared) (v : Value), BindsTo s fd ⟨[v], []⟩ [("_law_script", v)]) ∧ ∀ base : Heap, K.In base → base.Ns mainGlobals mg → FnOk P w K mg base CX0 10 f fd ["_law_script"] (Lw.spLaw K) := by
  have k_is_point := (He.keep_ok (c.fact 0 (f := fa (.keep "is_point")) rfl))
  have m_is_point := (He.glo_ok X G (c.fact 1 (f := fa (.glo "is_point")) rfl))
  obtain ⟨fd_is_point, F_is_point⟩ := c.g 0 (x := "is_point") (st := Pn.sis_point) k_is_point rfl
  have b_is_point := F_is_point.binds (ps := ["many", "number"]) fun _ _ _ _ _ _ us hl => match us, hl with | [_, _], _ => rfl
  have k_need_points := (He.keep_ok (c.fact 2 (f := fa (.keep "need_points")) rfl))
  have m_need_points := (He.glo_ok X G (c.fact 3 (f := fa (.glo "need_points")) rfl))
  obtain ⟨fd_need_points, F_need_points⟩ := c.g 1 (x := "need_points") (st := Pn.sneed_points) k_need_points rfl
  have b_need_points := F_need_points.binds (ps := ["many"]) fun _ _ _ _ _ _ us hl => match us, hl with | [_], _ => rfl
  have k_need_point := (He.keep_ok (c.fact 4 (f := fa (.keep "need_point")) rfl))
  have m_need_point := (He.glo_ok X G (c.fact 5 (f := fa (.glo "need_point")) rfl))
  obtain ⟨fd_need_point, F_need_point⟩ := c.g 2 (x := "need_point") (st := Pn.sneed_point) k_need_point rfl
  have b_need_point := F_need_point.binds (ps := ["many", "number"]) fun _ _ _ _ _ _ us hl => match us, hl with | [_, _], _ => rfl
  have k_rows_of := (He.keep_ok (c.fact 6 (f := fa (.keep "_rows_of")) rfl))
  have m_rows_of := (He.glo_ok X G (c.fact 7 (f := fa (.glo "_rows_of")) rfl))
  obtain ⟨fd_rows_of, F_rows_of⟩ := c.g 3 (x := "_rows_of") (st := Pn.s_rows_of) k_rows_of rfl
  have b_rows_of := F_rows_of.binds (ps := ["many", "ties"]) fun _ _ _ _ _ _ us hl => match us, hl with | [_, _], _ => rfl
  have k_opposite := (He.keep_ok (c.fact 8 (f := fa (.keep "opposite")) rfl))
  have m_opposite := (He.glo_ok X G (c.fact 9 (f := fa (.glo "opposite")) rfl))
  obtain ⟨fd_opposite, F_opposite⟩ := c.g 4 (x := "opposite") (st := Pn.sopposite) k_opposite rfl
  have b_opposite := F_opposite.binds (ps := ["net"]) fun _ _ _ _ _ _ us hl => match us, hl with | [_], _ => rfl
  have k_lessened := (He.keep_ok (c.fact 10 (f := fa (.keep "lessened")) rfl))
  have m_lessened := (He.glo_ok X G (c.fact 11 (f := fa (.glo "lessened")) rfl))
  obtain ⟨fd_lessened, F_lessened⟩ := c.g 5 (x := "lessened") (st := Pn.slessened) k_lessened rfl
  have b_lessened := F_lessened.binds (ps := ["net", "point"]) fun _ _ _ _ _ _ us hl => match us, hl with | [_, _], _ => rfl
  have k_need_arrows := (He.keep_ok (c.fact 12 (f := fa (.keep "_need_arrows")) rfl))
  have m_need_arrows := (He.glo_ok X G (c.fact 13 (f := fa (.glo "_need_arrows")) rfl))
  obtain ⟨fd_need_arrows, F_need_arrows⟩ := c.g 6 (x := "_need_arrows") (st := Pn.s_need_arrows) k_need_arrows rfl
  have b_need_arrows := F_need_arrows.binds (ps := ["many", "arrows"]) fun _ _ _ _ _ _ us hl => match us, hl with | [_, _], _ => rfl
  have k_heights := (He.keep_ok (c.fact 14 (f := fa (.keep "heights")) rfl))
  have m_heights := (He.glo_ok X G (c.fact 15 (f := fa (.glo "heights")) rfl))
  obtain ⟨fd_heights, F_heights⟩ := c.g 7 (x := "heights") (st := Pn.sheights) k_heights rfl
  have b_heights := F_heights.binds (ps := ["many", "arrows"]) fun _ _ _ _ _ _ us hl => match us, hl with | [_, _], _ => rfl
  have k_longest := (He.keep_ok (c.fact 16 (f := fa (.keep "longest")) rfl))
  have m_longest := (He.glo_ok X G (c.fact 17 (f := fa (.glo "longest")) rfl))
  obtain ⟨fd_longest, F_longest⟩ := c.g 8 (x := "longest") (st := Pn.slongest) k_longest rfl
  have b_longest := F_longest.binds (ps := ["many", "arrows"]) fun _ _ _ _ _ _ us hl => match us, hl with | [_, _], _ => rfl
  have k_need_arrow := (He.keep_ok (c.fact 18 (f := fa (.keep "_need_arrow")) rfl))
  have m_need_arrow := (He.glo_ok X G (c.fact 19 (f := fa (.glo "_need_arrow")) rfl))
  obtain ⟨fd_need_arrow, F_need_arrow⟩ := c.g 9 (x := "_need_arrow") (st := Pn.s_need_arrow) k_need_arrow rfl
  have b_need_arrow := F_need_arrow.binds (ps := ["net", "arrow"]) fun _ _ _ _ _ _ us hl => match us, hl with | [_, _], _ => rfl
  have k_at_once := (He.keep_ok (c.fact 20 (f := fa (.keep "_at_once")) rfl))
  have m_at_once := (He.glo_ok X G (c.fact 21 (f := fa (.glo "_at_once")) rfl))
  obtain ⟨fd_at_once, F_at_once⟩ := c.g 10 (x := "_at_once") (st := Pn.s_at_once) k_at_once rfl
  have b_at_once := F_at_once.binds (ps := ["net", "arrow"]) fun _ _ _ _ _ _ us hl => match us, hl with | [_, _], _ => rfl
  have k_ahead := (He.keep_ok (c.fact 22 (f := fa (.keep "_ahead")) rfl))
  have m_ahead := (He.glo_ok X G (c.fact 23 (f := fa (.glo "_ahead")) rfl))
  obtain ⟨fd_ahead, F_ahead⟩ := c.g 11 (x := "_ahead") (st := Pn.s_ahead) k_ahead rfl
  have b_ahead := F_ahead.binds (ps := ["net", "start"]) fun _ _ _ _ _ _ us hl => match us, hl with | [_, _], _ => rfl
  have k_forced := (He.keep_ok (c.fact 24 (f := fa (.keep "forced")) rfl))
  have m_forced := (He.glo_ok X G (c.fact 25 (f := fa (.glo "forced")) rfl))
  obtain ⟨fd_forced, F_forced⟩ := c.g 12 (x := "forced") (st := Pn.sforced) k_forced rfl
  have b_forced := F_forced.binds (ps := ["net", "arrow"]) fun _ _ _ _ _ _ us hl => match us, hl with | [_, _], _ => rfl
  have k_led := (He.keep_ok (c.fact 26 (f := fa (.keep "led")) rfl))
  have m_led := (He.glo_ok X G (c.fact 27 (f := fa (.glo "led")) rfl))
  obtain ⟨fd_led, F_led⟩ := c.g 13 (x := "led") (st := Pn.sled) k_led rfl
  have b_led := F_led.binds (ps := ["net", "arrow"]) fun _ _ _ _ _ _ us hl => match us, hl with | [_, _], _ => rfl
  have k_chain := (He.keep_ok (c.fact 28 (f := fa (.keep "chain")) rfl))
  have m_chain := (He.glo_ok X G (c.fact 29 (f := fa (.glo "chain")) rfl))
  obtain ⟨fd_chain, F_chain⟩ := c.g 14 (x := "chain") (st := Pn.schain) k_chain rfl
  have b_chain := F_chain.binds (ps := ["net", "one", "other"]) fun _ _ _ _ _ _ us hl => match us, hl with | [_, _, _], _ => rfl
  have k_gaps := (He.keep_ok (c.fact 30 (f := fa (.keep "gaps")) rfl))
  have m_gaps := (He.glo_ok X G (c.fact 31 (f := fa (.glo "gaps")) rfl))
  obtain ⟨fd_gaps, F_gaps⟩ := c.g 15 (x := "gaps") (st := Pn.sgaps) k_gaps rfl
  have b_gaps := F_gaps.binds (ps := ["arrows"]) fun _ _ _ _ _ _ us hl => match us, hl with | [_], _ => rfl
  have k_fits := (He.keep_ok (c.fact 32 (f := fa (.keep "fits")) rfl))
  have m_fits := (He.glo_ok X G (c.fact 33 (f := fa (.glo "fits")) rfl))
  obtain ⟨fd_fits, F_fits⟩ := c.g 16 (x := "fits") (st := Pn.sfits) k_fits rfl
  have b_fits := F_fits.binds (ps := ["net", "arrows"]) fun _ _ _ _ _ _ us hl => match us, hl with | [_, _], _ => rfl
  have k_turned := (He.keep_ok (c.fact 34 (f := fa (.keep "turned")) rfl))
  have m_turned := (He.glo_ok X G (c.fact 35 (f := fa (.glo "turned")) rfl))
  obtain ⟨fd_turned, F_turned⟩ := c.g 17 (x := "turned") (st := Pn.sturned) k_turned rfl
  have b_turned := F_turned.binds (ps := ["net"]) fun _ _ _ _ _ _ us hl => match us, hl with | [_], _ => rfl
  have k_coloured := (He.keep_ok (c.fact 36 (f := fa (.keep "coloured")) rfl))
  have m_coloured := (He.glo_ok X G (c.fact 37 (f := fa (.glo "coloured")) rfl))
  obtain ⟨fd_coloured, F_coloured⟩ := c.g 18 (x := "coloured") (st := Pn.scoloured) k_coloured rfl
  have b_coloured := F_coloured.binds (ps := ["net"]) fun _ _ _ _ _ _ us hl => match us, hl with | [_], _ => rfl
  have me_Net_init := He.meth_ok (c.fact 38 (f := fa (.meth "Net" "__init__")) rfl)
  obtain ⟨fd_Net_init, F_Net_init⟩ := c.m 19 (C := "Net") (m := "__init__") (q := "Net.__init__") (st := Pn.sNet___init__) me_Net_init.kp rfl
  have b_Net_init := F_Net_init.binds (ps := ["self", "many", "ties"]) fun _ _ _ _ _ _ us hl => match us, hl with | [_, _, _], _ => rfl
  have me_Net_tied := He.meth_ok (c.fact 39 (f := fa (.meth "Net" "tied")) rfl)
  obtain ⟨fd_Net_tied, F_Net_tied⟩ := c.m 20 (C := "Net") (m := "tied") (q := "Net.tied") (st := Pn.sNet_tied) me_Net_tied.kp rfl
  have b_Net_tied := F_Net_tied.binds (ps := ["self", "one", "other"]) fun _ _ _ _ _ _ us hl => match us, hl with | [_, _, _], _ => rfl
  have me_Net_near := He.meth_ok (c.fact 40 (f := fa (.meth "Net" "near")) rfl)
  obtain ⟨fd_Net_near, F_Net_near⟩ := c.m 21 (C := "Net") (m := "near") (q := "Net.near") (st := Pn.sNet_near) me_Net_near.kp rfl
  have b_Net_near := F_Net_near.binds (ps := ["self", "one"]) fun _ _ _ _ _ _ us hl => match us, hl with | [_, _], _ => rfl
  have me_Net_pairs := He.meth_ok (c.fact 41 (f := fa (.meth "Net" "pairs")) rfl)
  obtain ⟨fd_Net_pairs, F_Net_pairs⟩ := c.m 22 (C := "Net") (m := "pairs") (q := "Net.pairs") (st := Pn.sNet_pairs) me_Net_pairs.kp rfl
  have b_Net_pairs := F_Net_pairs.binds (ps := ["self"]) fun _ _ _ _ _ _ us hl => match us, hl with | [_], _ => rfl
  have k_law_cell_at := (He.keep_ok (c.fact 42 (f := fa (.keep "_law_cell_at")) rfl))
  have m_law_cell_at := (He.glo_ok X G (c.fact 43 (f := fa (.glo "_law_cell_at")) rfl))
  obtain ⟨fd_law_cell_at, F_law_cell_at⟩ := c.g 23 (x := "_law_cell_at") (st := Lw.s_law_cell_at) k_law_cell_at rfl
  have b_law_cell_at := F_law_cell_at.binds (ps := ["_law_script", "_law_k"]) fun _ _ _ _ _ _ us hl => match us, hl with | [_, _], _ => rfl
  have k_law_whole := (He.keep_ok (c.fact 44 (f := fa (.keep "_law_whole")) rfl))
  have m_law_whole := (He.glo_ok X G (c.fact 45 (f := fa (.glo "_law_whole")) rfl))
  obtain ⟨fd_law_whole, F_law_whole⟩ := c.g 24 (x := "_law_whole") (st := Lw.s_law_whole) k_law_whole rfl
  have b_law_whole := F_law_whole.binds (ps := ["_law_told_here"]) fun _ _ _ _ _ _ us hl => match us, hl with | [_], _ => rfl
  have k_law_alike := (He.keep_ok (c.fact 46 (f := fa (.keep "_law_alike")) rfl))
  have m_law_alike := (He.glo_ok X G (c.fact 47 (f := fa (.glo "_law_alike")) rfl))
  obtain ⟨fd_law_alike, F_law_alike⟩ := c.g 25 (x := "_law_alike") (st := Lw.s_law_alike) k_law_alike rfl
  have b_law_alike := F_law_alike.binds (ps := ["_law_told_here", "_law_due"]) fun _ _ _ _ _ _ us hl => match us, hl with | [_, _], _ => rfl
  have k_law_drawn := (He.keep_ok (c.fact 48 (f := fa (.keep "_law_drawn")) rfl))
  have m_law_drawn := (He.glo_ok X G (c.fact 49 (f := fa (.glo "_law_drawn")) rfl))
  obtain ⟨fd_law_drawn, F_law_drawn⟩ := c.g 26 (x := "_law_drawn") (st := Lw.s_law_drawn) k_law_drawn rfl
  have b_law_drawn := F_law_drawn.binds (ps := ["_law_cell", "_law_k"]) fun _ _ _ _ _ _ us hl => match us, hl with | [_, _], _ => rfl
  have k_law_order := (He.keep_ok (c.fact 50 (f := fa (.keep "_law_order")) rfl))
  have m_law_order := (He.glo_ok X G (c.fact 51 (f := fa (.glo "_law_order")) rfl))
  obtain ⟨fd_law_order, F_law_order⟩ := c.g 27 (x := "_law_order") (st := Lw.s_law_order) k_law_order rfl
  have b_law_order := F_law_order.binds (ps := ["_law_cell", "_law_many"]) fun _ _ _ _ _ _ us hl => match us, hl with | [_, _], _ => rfl
  have k_law_bit := (He.keep_ok (c.fact 52 (f := fa (.keep "_law_bit")) rfl))
  have m_law_bit := (He.glo_ok X G (c.fact 53 (f := fa (.glo "_law_bit")) rfl))
  obtain ⟨fd_law_bit, F_law_bit⟩ := c.g 28 (x := "_law_bit") (st := Lw.s_law_bit) k_law_bit rfl
  have b_law_bit := F_law_bit.binds (ps := ["_law_cell", "_law_k"]) fun _ _ _ _ _ _ us hl => match us, hl with | [_, _], _ => rfl
  have k_law_above := (He.keep_ok (c.fact 54 (f := fa (.keep "_law_above")) rfl))
  have m_law_above := (He.glo_ok X G (c.fact 55 (f := fa (.glo "_law_above")) rfl))
  obtain ⟨fd_law_above, F_law_above⟩ := c.g 29 (x := "_law_above") (st := Lw.s_law_above) k_law_above rfl
  have b_law_above := F_law_above.binds (ps := ["_law_many", "_law_first", "_law_second"]) fun _ _ _ _ _ _ us hl => match us, hl with | [_, _, _], _ => rfl
  have k_law_reached := (He.keep_ok (c.fact 56 (f := fa (.keep "_law_reached")) rfl))
  have m_law_reached := (He.glo_ok X G (c.fact 57 (f := fa (.glo "_law_reached")) rfl))
  obtain ⟨fd_law_reached, F_law_reached⟩ := c.g 30 (x := "_law_reached") (st := Lw.s_law_reached) k_law_reached rfl
  have b_law_reached := F_law_reached.binds (ps := ["_law_many", "_law_cell"]) fun _ _ _ _ _ _ us hl => match us, hl with | [_, _], _ => rfl
  have k_law_ringed := (He.keep_ok (c.fact 58 (f := fa (.keep "_law_ringed")) rfl))
  have m_law_ringed := (He.glo_ok X G (c.fact 59 (f := fa (.glo "_law_ringed")) rfl))
  obtain ⟨fd_law_ringed, F_law_ringed⟩ := c.g 31 (x := "_law_ringed") (st := Lw.s_law_ringed) k_law_ringed rfl
  have b_law_ringed := F_law_ringed.binds (ps := ["_law_many", "_law_cell"]) fun _ _ _ _ _ _ us hl => match us, hl with | [_, _], _ => rfl
  have k_law_made := (He.keep_ok (c.fact 60 (f := fa (.keep "_law_made")) rfl))
  have m_law_made := (He.glo_ok X G (c.fact 61 (f := fa (.glo "_law_made")) rfl))
  obtain ⟨fd_law_made, F_law_made⟩ := c.g 32 (x := "_law_made") (st := Lw.s_law_made) k_law_made rfl
  have b_law_made := F_law_made.binds (ps := ["_law_way", "_law_many", "_law_cell"]) fun _ _ _ _ _ _ us hl => match us, hl with | [_, _, _], _ => rfl
  have k_law_net := (He.keep_ok (c.fact 62 (f := fa (.keep "_law_net")) rfl))
  have m_law_net := (He.glo_ok X G (c.fact 63 (f := fa (.glo "_law_net")) rfl))
  obtain ⟨fd_law_net, F_law_net⟩ := c.g 33 (x := "_law_net") (st := Lw.s_law_net) k_law_net rfl
  have b_law_net := F_law_net.binds (ps := ["_law_script"]) fun _ _ _ _ _ _ us hl => match us, hl with | [_], _ => rfl
  have k_law_both := (He.keep_ok (c.fact 64 (f := fa (.keep "_law_both")) rfl))
  have m_law_both := (He.glo_ok X G (c.fact 65 (f := fa (.glo "_law_both")) rfl))
  obtain ⟨fd_law_both, F_law_both⟩ := c.g 34 (x := "_law_both") (st := Lw.s_law_both) k_law_both rfl
  have b_law_both := F_law_both.binds (ps := ["_law_ties"]) fun _ _ _ _ _ _ us hl => match us, hl with | [_], _ => rfl
  have k_law_listed := (He.keep_ok (c.fact 66 (f := fa (.keep "_law_listed")) rfl))
  have m_law_listed := (He.glo_ok X G (c.fact 67 (f := fa (.glo "_law_listed")) rfl))
  obtain ⟨fd_law_listed, F_law_listed⟩ := c.g 35 (x := "_law_listed") (st := Lw.s_law_listed) k_law_listed rfl
  have b_law_listed := F_law_listed.binds (ps := ["_law_told_here", "_law_due"]) fun _ _ _ _ _ _ us hl => match us, hl with | [_, _], _ => rfl
  have k_law_forces := (He.keep_ok (c.fact 68 (f := fa (.keep "_law_forces")) rfl))
  have m_law_forces := (He.glo_ok X G (c.fact 69 (f := fa (.glo "_law_forces")) rfl))
  obtain ⟨fd_law_forces, F_law_forces⟩ := c.g 36 (x := "_law_forces") (st := Lw.s_law_forces) k_law_forces rfl
  have b_law_forces := F_law_forces.binds (ps := ["_law_both_here", "_law_many", "_law_arrow_here"]) fun _ _ _ _ _ _ us hl => match us, hl with | [_, _, _], _ => rfl
  have k_law_arrow := (He.keep_ok (c.fact 70 (f := fa (.keep "_law_arrow")) rfl))
  have m_law_arrow := (He.glo_ok X G (c.fact 71 (f := fa (.glo "_law_arrow")) rfl))
  obtain ⟨fd_law_arrow, F_law_arrow⟩ := c.g 37 (x := "_law_arrow") (st := Lw.s_law_arrow) k_law_arrow rfl
  have b_law_arrow := F_law_arrow.binds (ps := ["_law_both_here", "_law_cell", "_law_many"]) fun _ _ _ _ _ _ us hl => match us, hl with | [_, _, _], _ => rfl
  have k_law_distances := (He.keep_ok (c.fact 72 (f := fa (.keep "_law_distances")) rfl))
  have m_law_distances := (He.glo_ok X G (c.fact 73 (f := fa (.glo "_law_distances")) rfl))
  obtain ⟨fd_law_distances, F_law_distances⟩ := c.g 38 (x := "_law_distances") (st := Lw.s_law_distances) k_law_distances rfl
  have b_law_distances := F_law_distances.binds (ps := ["_law_both_here", "_law_many", "_law_arrow_here"]) fun _ _ _ _ _ _ us hl => match us, hl with | [_, _, _], _ => rfl
  have k_law_turns := (He.keep_ok (c.fact 74 (f := fa (.keep "_law_turns")) rfl))
  have m_law_turns := (He.glo_ok X G (c.fact 75 (f := fa (.glo "_law_turns")) rfl))
  obtain ⟨fd_law_turns, F_law_turns⟩ := c.g 39 (x := "_law_turns") (st := Lw.s_law_turns) k_law_turns rfl
  have b_law_turns := F_law_turns.binds (ps := ["_law_both_here", "_law_told_here"]) fun _ _ _ _ _ _ us hl => match us, hl with | [_, _], _ => rfl
  have k_law_pair := (He.keep_ok (c.fact 76 (f := fa (.keep "_law_pair")) rfl))
  have m_law_pair := (He.glo_ok X G (c.fact 77 (f := fa (.glo "_law_pair")) rfl))
  obtain ⟨fd_law_pair, F_law_pair⟩ := c.g 40 (x := "_law_pair") (st := Lw.s_law_pair) k_law_pair rfl
  have b_law_pair := F_law_pair.binds (ps := ["_law_told_here"]) fun _ _ _ _ _ _ us hl => match us, hl with | [_], _ => rfl
  have k_law_clashes := (He.keep_ok (c.fact 78 (f := fa (.keep "_law_clashes")) rfl))
  have m_law_clashes := (He.glo_ok X G (c.fact 79 (f := fa (.glo "_law_clashes")) rfl))
  obtain ⟨fd_law_clashes, F_law_clashes⟩ := c.g 41 (x := "_law_clashes") (st := Lw.s_law_clashes) k_law_clashes rfl
  have b_law_clashes := F_law_clashes.binds (ps := ["_law_both_here", "_law_many", "_law_told_here"]) fun _ _ _ _ _ _ us hl => match us, hl with | [_, _, _], _ => rfl
  have k_law_told_pair := (He.keep_ok (c.fact 80 (f := fa (.keep "_law_told_pair")) rfl))
  have m_law_told_pair := (He.glo_ok X G (c.fact 81 (f := fa (.glo "_law_told_pair")) rfl))
  obtain ⟨fd_law_told_pair, F_law_told_pair⟩ := c.g 42 (x := "_law_told_pair") (st := Lw.s_law_told_pair) k_law_told_pair rfl
  have b_law_told_pair := F_law_told_pair.binds (ps := ["_law_told_here"]) fun _ _ _ _ _ _ us hl => match us, hl with | [_], _ => rfl
  have k_law_refused := (He.keep_ok (c.fact 82 (f := fa (.keep "_law_refused")) rfl))
  have m_law_refused := (He.glo_ok X G (c.fact 83 (f := fa (.glo "_law_refused")) rfl))
  obtain ⟨fd_law_refused, F_law_refused⟩ := c.g 43 (x := "_law_refused") (st := Lw.s_law_refused) k_law_refused rfl
  have b_law_refused := F_law_refused.binds (ps := ["_law_net_here", "_law_way", "_law_one", "_law_other"]) fun _ _ _ _ _ _ us hl => match us, hl with | [_, _, _, _], _ => rfl
  have k_law_least := (He.keep_ok (c.fact 84 (f := fa (.keep "_law_least")) rfl))
  have m_law_least := (He.glo_ok X G (c.fact 85 (f := fa (.glo "_law_least")) rfl))
  obtain ⟨fd_law_least, F_law_least⟩ := c.g 44 (x := "_law_least") (st := Lw.s_law_least) k_law_least rfl
  have b_law_least := F_law_least.binds (ps := ["_law_both_here", "_law_many", "_law_one", "_law_other"]) fun _ _ _ _ _ _ us hl => match us, hl with | [_, _, _, _], _ => rfl
  have k_law_told := (He.keep_ok (c.fact 86 (f := fa (.keep "_law_told")) rfl))
  have m_law_told := (He.glo_ok X G (c.fact 87 (f := fa (.glo "_law_told")) rfl))
  obtain ⟨fd_law_told, F_law_told⟩ := c.g 45 (x := "_law_told") (st := Lw.s_law_told) k_law_told rfl
  have b_law_told := F_law_told.binds (ps := ["_law_net_here", "_law_both_here", "_law_many", "_law_way", "_law_arrows"]) fun _ _ _ _ _ _ us hl => match us, hl with | [_, _, _, _, _], _ => rfl
  have k_law_wholes := (He.keep_ok (c.fact 88 (f := fa (.keep "_law_wholes")) rfl))
  have m_law_wholes := (He.glo_ok X G (c.fact 89 (f := fa (.glo "_law_wholes")) rfl))
  obtain ⟨fd_law_wholes, F_law_wholes⟩ := c.g 46 (x := "_law_wholes") (st := Lw.s_law_wholes) k_law_wholes rfl
  have b_law_wholes := F_law_wholes.binds (ps := ["_law_told_here"]) fun _ _ _ _ _ _ us hl => match us, hl with | [_], _ => rfl
  have k_law_right := (He.keep_ok (c.fact 90 (f := fa (.keep "_law_right")) rfl))
  have m_law_right := (He.glo_ok X G (c.fact 91 (f := fa (.glo "_law_right")) rfl))
  obtain ⟨fd_law_right, F_law_right⟩ := c.g 47 (x := "_law_right") (st := Lw.s_law_right) k_law_right rfl
  have b_law_right := F_law_right.binds (ps := ["_law_both_here", "_law_many", "_law_told_here"]) fun _ _ _ _ _ _ us hl => match us, hl with | [_, _, _], _ => rfl
  have k_law_seen := (He.keep_ok (c.fact 92 (f := fa (.keep "_law_seen")) rfl))
  have m_law_seen := (He.glo_ok X G (c.fact 93 (f := fa (.glo "_law_seen")) rfl))
  obtain ⟨fd_law_seen, F_law_seen⟩ := c.g 48 (x := "_law_seen") (st := Lw.s_law_seen) k_law_seen rfl
  have b_law_seen := F_law_seen.binds (ps := ["_law_net_here"]) fun _ _ _ _ _ _ us hl => match us, hl with | [_], _ => rfl
  have k_law_near := (He.keep_ok (c.fact 94 (f := fa (.keep "_law_near")) rfl))
  have m_law_near := (He.glo_ok X G (c.fact 95 (f := fa (.glo "_law_near")) rfl))
  obtain ⟨fd_law_near, F_law_near⟩ := c.g 49 (x := "_law_near") (st := Lw.s_law_near) k_law_near rfl
  have b_law_near := F_law_near.binds (ps := ["_law_many", "_law_due"]) fun _ _ _ _ _ _ us hl => match us, hl with | [_, _], _ => rfl
  have k_law_turned := (He.keep_ok (c.fact 96 (f := fa (.keep "_law_turned")) rfl))
  have m_law_turned := (He.glo_ok X G (c.fact 97 (f := fa (.glo "_law_turned")) rfl))
  obtain ⟨fd_law_turned, F_law_turned⟩ := c.g 50 (x := "_law_turned") (st := Lw.s_law_turned) k_law_turned rfl
  have b_law_turned := F_law_turned.binds (ps := ["_law_net_here", "_law_both_here", "_law_many", "_law_way", "_law_arrows"]) fun _ _ _ _ _ _ us hl => match us, hl with | [_, _, _, _, _], _ => rfl
  have k_law_there := (He.keep_ok (c.fact 98 (f := fa (.keep "_law_there")) rfl))
  have m_law_there := (He.glo_ok X G (c.fact 99 (f := fa (.glo "_law_there")) rfl))
  obtain ⟨fd_law_there, F_law_there⟩ := c.g 51 (x := "_law_there") (st := Lw.s_law_there) k_law_there rfl
  have b_law_there := F_law_there.binds (ps := ["_law_both_here", "_law_many", "_law_way", "_law_arrows"]) fun _ _ _ _ _ _ us hl => match us, hl with | [_, _, _, _], _ => rfl
  have k_law := (He.keep_ok (c.fact 100 (f := fa (.keep "law")) rfl))
  have m_law := (He.glo_ok X G (c.fact 101 (f := fa (.glo "law")) rfl))
  obtain ⟨fd_law, F_law⟩ := c.g 52 (x := "law") (st := Lw.slaw) k_law rfl
  have b_law := F_law.binds (ps := ["_law_script"]) fun _ _ _ _ _ _ us hl => match us, hl with | [_], _ => rfl
  have T : Pn.LawK K mg ⟨He.ga K "Net", He.ga K "NoPoints", He.ga K "NoPoint", He.ga K "NoTie", He.ga K "TwiceTold"⟩ := by
      have gl : Glb mg := ⟨(He.free_ok X G (c.fact 102 (f := fa (.free "len")) rfl)), (He.free_ok X G (c.fact 103 (f := fa (.free "range")) rfl)), (He.free_ok X G (c.fact 104 (f := fa (.free "list")) rfl)), (He.free_ok X G (c.fact 105 (f := fa (.free "tuple")) rfl)), (He.free_ok X G (c.fact 106 (f := fa (.free "sorted")) rfl)), (He.free_ok X G (c.fact 107 (f := fa (.free "isinstance")) rfl)), (He.free_ok X G (c.fact 108 (f := fa (.free "int")) rfl)), (He.free_ok X G (c.fact 109 (f := fa (.free "bool")) rfl))⟩
      have ex : ∀ x : Str, (fa (.exc x)) K = true → mg x = some (.ref (He.ga K x)) → ExF K mg x (He.ga K x) := fun x a b => by
        obtain ⟨h1, h2, h3, h4⟩ := He.exc_ok a
        exact ⟨h1, b, h2, h3, h4⟩
      exact { toGlb := gl, toNetK := ⟨gl, He.cls_ok (c.fact 110 (f := fa (.cls "Net")) rfl), He.noat_ok (c.fact 111 (f := fa (.noat "Net" "many")) rfl), He.noat_ok (c.fact 112 (f := fa (.noat "Net" "_rows")) rfl), ex _ (c.fact 113 (f := fa (.exc "NoPoints")) rfl) (He.glo_ok X G (c.fact 114 (f := fa (.glo "NoPoints")) rfl)), ex _ (c.fact 115 (f := fa (.exc "NoPoint")) rfl) (He.glo_ok X G (c.fact 116 (f := fa (.glo "NoPoint")) rfl)), ex _ (c.fact 117 (f := fa (.exc "NoTie")) rfl) (He.glo_ok X G (c.fact 118 (f := fa (.glo "NoTie")) rfl)), ex _ (c.fact 119 (f := fa (.exc "TwiceTold")) rfl) (He.glo_ok X G (c.fact 120 (f := fa (.glo "TwiceTold")) rfl)), He.int_ok X G (c.fact 121 (f := fa (.int "MOST_POINTS" 24)) rfl)⟩ }
  have er : ExF K mg "Round" (He.ga K "Round") := by
    obtain ⟨h1, h2, h3, h4⟩ := He.exc_ok (c.fact 124 (f := fa (.exc "Round")) rfl)
    exact ⟨h1, (He.glo_ok X G (c.fact 125 (f := fa (.glo "Round")) rfl)), h2, h3, h4⟩
  have ec : ExF K mg "Clash" (He.ga K "Clash") := by
    obtain ⟨h1, h2, h3, h4⟩ := He.exc_ok (c.fact 126 (f := fa (.exc "Clash")) rfl)
    exact ⟨h1, (He.glo_ok X G (c.fact 127 (f := fa (.glo "Clash")) rfl)), h2, h3, h4⟩
  have hmin : mg "min" = none := (He.free_ok X G (c.fact 128 (f := fa (.free "min")) rfl))
  have hmax : mg "max" = none := (He.free_ok X G (c.fact 129 (f := fa (.free "max")) rfl))
  have ea : ExF K mg "NoArrow" (He.ga K "NoArrow") := by
    obtain ⟨h1, h2, h3, h4⟩ := He.exc_ok (c.fact 130 (f := fa (.exc "NoArrow")) rfl)
    exact ⟨h1, (He.glo_ok X G (c.fact 131 (f := fa (.glo "NoArrow")) rfl)), h2, h3, h4⟩
  have e := hfa.symm.trans m_law
  cases e
  refine ⟨fd_law, fun s v => one_arg F_law (fun _ _ _ _ _ _ _ => rfl) s v, fun base _ _ => ?_⟩
  have tg := T.toGlb
  have tn := T.toNetK
  have tp := tn.p
  have gCell : FnC P w K mg base CX0 1 "_law_cell_at" Lw.rCell := ⟨_, _, _, Lw.ok_cell F_law_cell_at tg, m_law_cell_at, k_law_cell_at, b_law_cell_at⟩
  have gDrawn : FnC P w K mg base CX0 1 "_law_drawn" Lw.rDrawn := ⟨_, _, _, Lw.ok_drawn F_law_drawn tg, m_law_drawn, k_law_drawn, b_law_drawn⟩
  have gOrder : FnC P w K mg base CX0 2 "_law_order" Lw.rOrder := ⟨_, _, _, Lw.ok_order F_law_order tg gDrawn, m_law_order, k_law_order, b_law_order⟩
  have gBit : FnC P w K mg base CX0 2 "_law_bit" Lw.rBit := ⟨_, _, _, Lw.ok_bit F_law_bit tg gDrawn, m_law_bit, k_law_bit, b_law_bit⟩
  have gAbove : FnC P w K mg base CX0 1 "_law_above" Lw.rAbove := ⟨_, _, _, Lw.ok_above F_law_above tg, m_law_above, k_law_above, b_law_above⟩
  have gReached : FnC P w K mg base CX0 3 "_law_reached" Lw.rReached := ⟨_, _, _, Lw.ok_reached F_law_reached tg gBit, m_law_reached, k_law_reached, b_law_reached⟩
  have gRinged : FnC P w K mg base CX0 3 "_law_ringed" Lw.rRinged := ⟨_, _, _, Lw.ok_ringed F_law_ringed tg gBit, m_law_ringed, k_law_ringed, b_law_ringed⟩
  have gMade : FnC P w K mg base CX0 4 "_law_made" Lw.rMade := ⟨_, _, _, Lw.ok_made F_law_made tg gDrawn gBit gOrder gAbove gReached gRinged, m_law_made, k_law_made, b_law_made⟩
  have gNet : FnC P w K mg base CX0 5 "_law_net" Lw.rNet := ⟨_, _, _, Lw.ok_net F_law_net tg gCell gDrawn gBit gOrder gMade, m_law_net, k_law_net, b_law_net⟩
  have gBoth : FnC P w K mg base CX0 1 "_law_both" Lw.rBoth := ⟨_, _, _, Lw.ok_both F_law_both tg, m_law_both, k_law_both, b_law_both⟩
  have gWhole : FnC P w K mg base CX0 1 "_law_whole" Lw.rWhole := ⟨_, _, _, Lw.ok_whole F_law_whole tg, m_law_whole, k_law_whole, b_law_whole⟩
  have gAlike : FnC P w K mg base CX0 4 "_law_alike" (Lw.rAlike 3) := ⟨_, _, _, Lw.ok_alike F_law_alike tg m_law_alike k_law_alike b_law_alike 3, m_law_alike, k_law_alike, b_law_alike⟩
  have gListed : FnC P w K mg base CX0 5 "_law_listed" Lw.rListed := ⟨_, _, _, Lw.ok_listed F_law_listed tg gAlike, m_law_listed, k_law_listed, b_law_listed⟩
  have gIsPoint : FnC P w K mg base CX0 1 "is_point" Pn.rPoint := ⟨_, _, _, Pn.ok_point F_is_point , m_is_point, k_is_point, b_is_point⟩
  have gNeedPts : FnC P w K mg base (L2N.CX P w) 2 "need_points" (Pn.rNeedPts _) := ⟨_, _, _, Pn.ok_need_points F_need_points tp, m_need_points, k_need_points, b_need_points⟩
  have gNeed : FnC P w K mg base (L2N.CX P w) 2 "need_point" (Pn.rNeed _) := ⟨_, _, _, Pn.ok_need F_need_point tp gIsPoint, m_need_point, k_need_point, b_need_point⟩
  have mNet : Pn.MkC P w K mg base _ _ _ _ := ⟨Pn.ok_init F_Net_init tn (Pn.ok_rows F_rows_of tn gIsPoint) gNeedPts m_rows_of k_rows_of b_rows_of, He.mkr_ok (c.fact 122 (f := fa (.mkr "Net")) rfl), b_Net_init, (He.glo_ok X G (c.fact 123 (f := fa (.glo "Net")) rfl))⟩
  have mTied : MtC P w K mg base (L2N.CX P w) 3 (He.ga K "Net") "tied" _ _ _ (Pn.rTied _) := ⟨Pn.ok_tied F_Net_tied tn gNeed, me_Net_tied, b_Net_tied⟩
  have mNearN : MtN P w K mg base (L2N.CX P w) 3 (He.ga K "Net") "near" _ _ _ (Pn.rNear _) := ⟨Pn.ok_near F_Net_near tn gNeed, me_Net_near, b_Net_near⟩
  have mPairsN : MtN P w K mg base CX0 1 (He.ga K "Net") "pairs" _ _ _ (Pn.rPairs _) := ⟨Pn.ok_pairs F_Net_pairs tn, me_Net_pairs, b_Net_pairs⟩
  have gNeedA : FnC P w K mg base (L2N.CX P w) 4 "_need_arrow" (Pn.rNeedA _ _) := ⟨_, _, _, Pn.ok_need_arrow F_need_arrow T ea gIsPoint mTied, m_need_arrow, k_need_arrow, b_need_arrow⟩
  have gOnceN : FnN P w K mg base CX0 4 "_at_once" (Pn.rOnce _) := ⟨_, _, _, Pn.ok_at_once F_at_once T mTied mNearN.d, m_at_once, k_at_once, b_at_once⟩
  have gAhead : FnC P w K mg base CX0 5 "_ahead" (Pn.rAhead _) := ⟨_, _, _, Pn.ok_ahead F_ahead T gOnceN.d, m_ahead, k_ahead, b_ahead⟩
  have gLedN : FnN P w K mg base (L2N.CX P w) 6 "led" (Pn.rLed _ _) := ⟨_, _, _, Pn.ok_led F_led T gNeedA gAhead, m_led, k_led, b_led⟩
  have gChainW : FnW P w K mg base (L2N.CX P w) 6 "chain" (Pn.rChain _ _) := ⟨_, _, _, Pn.ok_chain F_chain T gNeedA gAhead, m_chain, k_chain, b_chain⟩
  have gTurnedT : FnT P w K mg base CX0 7 "turned" (Pn.rTurned _) := ⟨_, _, _, Pn.ok_turned F_turned T gLedN.d gChainW.n mPairsN.d, m_turned, k_turned, b_turned⟩
  have gPair : FnC P w K mg base CX0 2 "_law_pair" Lw.rPair := ⟨_, _, _, Lw.ok_pair F_law_pair tg gWhole, m_law_pair, k_law_pair, b_law_pair⟩
  have gToldPair : FnC P w K mg base CX0 1 "_law_told_pair" Lw.rToldPair := ⟨_, _, _, Lw.ok_told_pair F_law_told_pair tg, m_law_told_pair, k_law_told_pair, b_law_told_pair⟩
  have gTurns : FnC P w K mg base CX0 3 "_law_turns" Lw.rTurns := ⟨_, _, _, Lw.ok_turns F_law_turns tg gPair, m_law_turns, k_law_turns, b_law_turns⟩
  have gForces : FnC P w K mg base CX0 1 "_law_forces" Lw.rForces := ⟨_, _, _, Lw.ok_forces F_law_forces tg, m_law_forces, k_law_forces, b_law_forces⟩
  have gClashes : FnC P w K mg base CX0 3 "_law_clashes" Lw.rClashes := ⟨_, _, _, Lw.ok_clashes F_law_clashes tg gPair gForces, m_law_clashes, k_law_clashes, b_law_clashes⟩
  have gOpp : FnC P w K mg base CX0 5 "opposite" (Pn.rOpp _) := ⟨_, _, _, Pn.ok_opposite F_opposite T mTied mNet, m_opposite, k_opposite, b_opposite⟩
  have gLess : FnC P w K mg base (L2N.CX P w) 5 "lessened" (Pn.rLess _) := ⟨_, _, _, Pn.ok_lessened F_lessened T gNeed mTied mNet, m_lessened, k_lessened, b_lessened⟩
  have gForcedN : FnN P w K mg base (L2N.CX P w) 5 "forced" (Pn.rForced _ _) := ⟨_, _, _, Pn.ok_forced F_forced gNeedA gOnceN, m_forced, k_forced, b_forced⟩
  have gGapsN : FnN P w K mg base CX0 1 "gaps" Pn.rGaps := ⟨_, _, _, Pn.ok_gaps F_gaps tg (He.free_ok X G (c.fact 132 (f := fa (.free "set")) rfl)), m_gaps, k_gaps, b_gaps⟩
  have gFits : FnC P w K mg base CX0 2 "fits" (Pn.rFits _) := ⟨_, _, _, Pn.ok_fits F_fits T hmin hmax gGapsN.d mPairsN.d, m_fits, k_fits, b_fits⟩
  have gNeedAs : FnC P w K mg base (L2N.CX P w) 3 "_need_arrows" (Pn.rNeedAs _) := ⟨_, _, _, Pn.ok_need_arrows F_need_arrows gNeedPts gNeed, m_need_arrows, k_need_arrows, b_need_arrows⟩
  have gHeightsN : FnN P w K mg base (L2N.CX P w) 4 "heights" (Pn.rHeights _ _) := ⟨_, _, _, Pn.ok_heights F_heights tg hmax er gNeedAs, m_heights, k_heights, b_heights⟩
  have gLongestN : FnN P w K mg base (L2N.CX P w) 5 "longest" (Pn.rLongest _ _) := ⟨_, _, _, Pn.ok_longest F_longest tg hmax hmin gHeightsN.d, m_longest, k_longest, b_longest⟩
  have gColouredP : FnP P w K mg base (L2N.CX P w) 8 "coloured" (Pn.rColoured _ _) := ⟨_, _, _, Pn.ok_coloured F_coloured T ec gTurnedT.d gHeightsN gLongestN, m_coloured, k_coloured, b_coloured⟩
  have gWholes : FnC P w K mg base CX0 2 "_law_wholes" Lw.rWholes := ⟨_, _, _, Lw.ok_wholes F_law_wholes tg gWhole, m_law_wholes, k_law_wholes, b_law_wholes⟩
  have gRight : FnC P w K mg base CX0 3 "_law_right" Lw.rRight13 := ⟨_, _, _, Lw.ok_right13 F_law_right tg hmin hmax gWholes, m_law_right, k_law_right, b_law_right⟩
  have gArrow : FnC P w K mg base CX0 1 "_law_arrow" Lw.rArrow15 := ⟨_, _, _, Lw.ok_arrow15 F_law_arrow tg, m_law_arrow, k_law_arrow, b_law_arrow⟩
  have gThere : FnC P w K mg base CX0 1 "_law_there" Lw.rThere15 := ⟨_, _, _, Lw.ok_there15 F_law_there tg, m_law_there, k_law_there, b_law_there⟩
  have gRefused : FnC P w K mg base CX0 7 "_law_refused" (Lw.rRef15 _) := ⟨_, _, _, Lw.ok_refused15 F_law_refused T (He.glo_ok X G (c.fact 116 (f := fa (.glo "NoPoint")) rfl)) (He.glo_ok X G (c.fact 131 (f := fa (.glo "NoArrow")) rfl)) (He.exm_ok (c.fact 133 (f := fa (.exm "NoPoint" "NoPoint" true)) rfl)) (He.exm_ok (c.fact 134 (f := fa (.exm "NoArrow" "NoPoint" false)) rfl)) (He.exm_ok (c.fact 135 (f := fa (.exm "NoArrow" "NoArrow" true)) rfl)) mTied mNearN.d gForcedN.d gLedN.d gChainW.d gLess, m_law_refused, k_law_refused, b_law_refused⟩
  have gDist : FnC P w K mg base CX0 2 "_law_distances" Lw.rDist := ⟨_, _, _, Lw.ok_dist F_law_distances tg gForces, m_law_distances, k_law_distances, b_law_distances⟩
  have gLeast : FnC P w K mg base CX0 3 "_law_least" Lw.rLeast := ⟨_, _, _, Lw.ok_least F_law_least tg gForces gDist, m_law_least, k_law_least, b_law_least⟩
  have gSeen : FnC P w K mg base CX0 4 "_law_seen" (Lw.rSeen15 _) := ⟨_, _, _, Lw.ok_seen15 F_law_seen T mNearN.d mPairsN.d, m_law_seen, k_law_seen, b_law_seen⟩
  have gNear15 : FnC P w K mg base CX0 2 "_law_near" Lw.rNear15 := ⟨_, _, _, Lw.ok_near15 F_law_near tg gBoth, m_law_near, k_law_near, b_law_near⟩
  have gTold : FnC P w K mg base CX0 7 "_law_told" (Lw.rTold15 _) := ⟨_, _, _, Lw.ok_told15 F_law_told T mTied mNearN.d mPairsN.d gForcedN.d gLedN.d gChainW.d gLess gOpp gForces gDist gLeast gSeen gNear15, m_law_told, k_law_told, b_law_told⟩
  have gTurned15 : FnC P w K mg base CX0 9 "_law_turned" (Lw.rTurned15 _) := ⟨_, _, _, Lw.ok_turned15 F_law_turned T (He.glo_ok X G (c.fact 127 (f := fa (.glo "Clash")) rfl)) (He.exm_ok (c.fact 136 (f := fa (.exm "Clash" "Clash" true)) rfl)) gBit gFits gTurns gTurnedT.d gToldPair gClashes gColouredP.d gRight mNet, m_law_turned, k_law_turned, b_law_turned⟩
  exact Lw.law_sp (Lw.ok_law F_law T hmin gCell gNet gBoth gArrow gThere gRefused gTurned15 gTold mNet)
end E15
open PySem PySem.W PySem.Calls PyProof.Rows
theorem PySem.Challenge.cw_arrowties_k15_whole_asked_in_any_order_holds : PySem.Challenge.rw_arrowties_k15_whole_asked_in_any_order.Holds := by
  w_on; o_law
  refine HandSHeadRun.head_any (r := OpenLaw.row PySem.Challenge.rw_arrowties_k15_whole_asked_in_any_order) (q := view (OpenLaw.row PySem.Challenge.rw_arrowties_k15_whole_asked_in_any_order).prog [65]) (H := E15.hk) (ob := E15.ob) (M := 12000) (loose := E15.loose) (d := HandSHeadRun.topDef (OpenLaw.row PySem.Challenge.rw_arrowties_k15_whole_asked_in_any_order).prog 65) (kwd := []) E15.ob_eq
    (by kernel_rfl) (fun s => by kernel_rfl) E15.run (by kernel_rfl) (by kernel_rfl) (by kernel_rfl) (by rfl) (by first | assumption | decide +kernel) (by decide +kernel) ⟨rfl, rfl, rfl, rfl, rfl, by decide +kernel⟩ ?hw ?hc
  case hw => w_witness2
  case hc =>
    refine L2.walk_ofE (l := PySem.Challenge.rw_arrowties_k15_whole_asked_in_any_order) (n := 63) (k := 10) (x := "_law_script") (CX := L2.CX0) rfl (by decide) (by kernel_rfl) ⟨rfl, by decide, by decide⟩ ?F (fun _ _ _ _ z => z)
    intro w mg fa h Y G hmg0
    obtain ⟨K, KX, c⟩ := Y
    have hmg : mg ("law" : PySem.Str) = some (.ref fa) := by
      have e : (HandSHeadRun.topDef (OpenLaw.row PySem.Challenge.rw_arrowties_k15_whole_asked_in_any_order).prog 65).name = ("law" : PySem.Str) := by kernel_rfl
      rw [← e]
      exact hmg0
    obtain ⟨fd, hb, hF⟩ := E15.facts (P := (PySem.Challenge.rw_arrowties_k15_whole_asked_in_any_order).prog) (w := w) KX G hmg c
    exact ⟨K, fd, Lw.spLaw K, KX, hb, fun H a ns hl _ hS => ⟨a, ns, rfl, hS, fun _ => rfl⟩, hF⟩

end
