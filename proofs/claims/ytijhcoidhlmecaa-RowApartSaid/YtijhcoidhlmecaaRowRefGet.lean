/- Layer 3: the row with whose bytes a slice begins: the document's answer. -/
import Derived.Test.YtijhcoidhlmecaaRowGet2
namespace Go.Proofs.Ytijhcoidhlmecaa
set_option maxRecDepth 100000
open Go.RowKit

theorem add_one_at (g j : Nat) : (⟨g, 0, none⟩ : Addr).add j = ⟨g, j, none⟩ := by unfold Addr.add; by_cases h : j = 0 <;> simp [h]

/-- a value more, behind a row of the call's own: it lies in a block of its own first -/
theorem wpList_push3 {w W0 : World} {ops : Array Oper} {rest : List Oper} {o : Oper} {a : Act} {Q : Exit → Act → World → Prop} (hgd : o.guard = none) (s x : Operand)
    (ho : o.op = .call { callee := .builtin .append, args := #[s, x], argTypes := #[24, 24] })
    (base : Nat) (v : Value) (n : Nat) (l : List V3) (u : V3) (g : Nat) (hg : w.heap.size = g) (hx : a.eval x = .slice (some ⟨g, 0, none⟩) 1 1)
    (hs : a.eval s = v) (hown : w.ownsRow base 44 3 v n (l.flatMap V3.cells)) (hn : n < 4294967296)
    (hbel : Below base W0 w) (hbase : base ≤ w.heap.size)
    (h : ∀ v' w', w'.ownsRow base 44 3 v' (n + 1) ((l ++ [u]).flatMap V3.cells) → Below base W0 w' → base ≤ w'.heap.size → wpList Try.prog ops Q rest (a.put o.dst v') w') :
    wpList Try.prog ops Q (o :: rest) a (w.alloc (.cells #[.int .i64 u.k, .int .i64 u.n, .string u.s] 44)) := by
  subst hg
  obtain ⟨i0, hi0, hz0, hz1, hz2⟩ := info_parts Try.infoVal
  refine wpList_append_own _ hgd s x 24 ho base 44 i0 _ 3 32 Try.underlying24 hi0 hz0 hz1 hz2 rfl (by omega) v n (l.flatMap V3.cells) hs (hown.alloc _) ⟨w.heap.size, 0, none⟩ 1 1 u.cells hx rfl ?_
    (by intro y hy; simp [V3.cells] at hy; rcases hy with rfl | rfl | rfl <;> rfl) (by simp only [maxLen]; omega) (by omega) (by simp; omega) ?_
  · intro j y hj
    rw [add_one_at, cell_row (heap_alloc_new w _)]
    simpa [V3.cells] using hj
  intro v' w' hown' hgrow _
  refine h v' w' ?_ ?_ (by have := hgrow.size; simp at this; omega)
  · rw [List.flatMap_append]
    simpa using hown'
  · exact (hbel.alloc hbase _).grown hgrow (by simp; omega) (fun k hk => (hown.lt k hk).1)

theorem refValGet_yes {A : Option Addr} {n c : Nat} {l : List Int} {w : World} (hrd : Rd w A n c (vals .u8 l)) (hb : ∀ x ∈ l, 0 ≤ x ∧ x ≤ 255) (hn : n ≤ 4294967296) (h : getOk l = true) :
    Calls Try.prog 42 #[.slice A n c] w fun e w' => e = .returned (.tuple #[(hV l).agg, .int .i64 (hL l : Int), .int .i64 0]) ∧ Below w.heap.size w w' := by
  have := refValGet_any A n c l w hrd hb hn
  obtain ⟨e1, e2, e3, e4, e5⟩ := gv_some h
  rw [e1, e2, e3, e4, e5, (hL_is hb h).1] at this
  exact this
theorem refValGet_no {A : Option Addr} {n c : Nat} {l : List Int} {w : World} (hrd : Rd w A n c (vals .u8 l)) (hb : ∀ x ∈ l, 0 ≤ x ∧ x ≤ 255) (hn : n ≤ 4294967296) (h : getOk l = false) :
    Calls Try.prog 42 #[.slice A n c] w fun e w' => e = .returned (.tuple #[.agg #[.int .i64 0, .int .i64 0, .string ⟨#[]⟩], .int .i64 0, .int .i64 3]) ∧ Below w.heap.size w w' := by
  have := refValGet_any A n c l w hrd hb hn
  obtain ⟨e1, e2, e3, e4, e5⟩ := gv_none h
  rw [e1, e2, e3, e4, e5] at this
  exact this

set_option maxHeartbeats 3200000 in
theorem refRowGet_any (A : Option Addr) (n c : Nat) (l : List Int) (w : World) (hrd : Rd w A n c (vals .u8 l)) (hb : ∀ x ∈ l, 0 ≤ x ∧ x ≤ 255) (hn : n ≤ 4294967295) :
    Calls Try.prog 25 #[.slice A n c] w fun e w' => GotRow (rowGetZ l) w e w' := by
  have hll : l.length = n := by simpa using hrd.len
  have hcap := hrd.cap
  have HRD := Lib.hid hrd; have HB := Lib.hid hb; have HLL := Lib.hid hll
  clear hrd hb hll
  cases hg : getZ l with
  | none =>
    have hN := Lib.hid (show rowGetZ l = none by rw [rowGetZ, hg])
    have P := Lib.hid (refGet_none HRD.out HB.out hg)
    clear hg
    go_enter Try.func25, Try.ntmps25
    go_wp2_with fail
    refine P.out.mono ?_
    rintro e w1 ⟨rfl, b1⟩
    go_wp2
    go_ret3
    exact got_no hN.out b1
  | some p =>
    obtain ⟨z, u⟩ := p
    have hs := getZ_some HB.out hg
    have hu : u ≤ n := by have := hs.2.2.2.2; have := HLL.out; omega
    have P := Lib.hid (refGet_some HRD.out HB.out hg)
    rcases Decidable.em (z < 0) with hz | hz
    · have hN := Lib.hid (show rowGetZ l = none by rw [rowGetZ, hg]; simp only []; rw [if_neg (by omega)])
      clear hg hs
      go_enter Try.func25, Try.ntmps25
      go_wp2_with fail
      refine P.out.mono ?_
      rintro e w1 ⟨rfl, b1⟩
      go_wp2
      go_ret3
      exact got_no hN.out b1
    · obtain ⟨k, rfl⟩ : ∃ k : Nat, z = k := ⟨z.toNat, by omega⟩
      have hz64 : (k : Int) ≤ 9223372036854775807 := hs.1.2
      have HR := Lib.hid (show rowGetZ l = (getsZ k (l.drop u)).map (fun p => (p.1, u + p.2)) by rw [rowGetZ, hg]; simp only []; rw [if_pos (by omega)]; rfl)
      clear hg hs
      have hz0 : ¬ ((k : Int) < 0) := hz
      clear hz
      go_enter Try.func25, Try.ntmps25
      go_wp2_with fail
      refine P.out.mono ?_
      rintro e w1 ⟨rfl, b1⟩
      go_wp2_with fail
      go_loopw [6, 8, 9] (fun us v i wr => ∃ (j p : Nat) (done : List V3), j ≤ k ∧ i = .int .i64 j ∧ us = .int .i64 p ∧ p ≤ n ∧ j ≤ p ∧ done.length = j ∧ Hid (rowGetZ l = (getsZ (k - j) (l.drop p)).map (fun q => (done ++ q.1, p + q.2))) ∧ wr.ownsRow w.heap.size 44 3 v j (done.flatMap V3.cells) ∧ Below w.heap.size w wr) (fun _ _ i _ => k - (intOf i).toNat)
      case atStart => exact ⟨0, u, [], Nat.zero_le _, rfl, rfl, hu, Nat.zero_le _, rfl, by show _ = _; rw [HR.out]; simp, World.ownsRow_nil _ _ _ _, b1⟩
      case round =>
        obtain ⟨j, p, done, hj, rfl, rfl, hpn, hjp, hdl, hgr, hown, hbel⟩ := hrel
        by_cases hlt : j < k
        · have hki : (j : Int) < k := by omega
          have HBp : Hid (∀ x ∈ l.drop p, 0 ≤ x ∧ x ≤ 255) := Lib.hid fun x hx => HB.out x (List.mem_of_mem_drop hx)
          obtain ⟨A2, HS2, hsl2⟩ := from_at HRD.out hpn
          have hpi : (p : Int) ≤ n := by omega
          have hst : getsZ (k - j) (l.drop p) = if getOk (l.drop p) = true then (getsZ (k - (j + 1)) ((l.drop p).drop (hL (l.drop p)))).map (fun q => (hV (l.drop p) :: q.1, hL (l.drop p) + q.2)) else none := by
            conv => lhs; rw [show k - j = (k - (j + 1)) + 1 by omega, getsZ]
          cases hok : getOk (l.drop p) with
          | false =>
            have hN := Lib.hid (show rowGetZ l = none by rw [hgr.out, hst, if_neg (by rw [hok]; decide)]; rfl)
            have PV : Hid (∀ A' W, Rd W A' (n - p) (c - p) (vals .u8 (l.drop p)) → Calls Try.prog 42 #[.slice A' (n - p) (c - p)] W fun e W' => e = .returned (.tuple #[.agg #[.int .i64 0, .int .i64 0, .string ⟨#[]⟩], .int .i64 0, .int .i64 3]) ∧ Below W.heap.size W W') :=
              Lib.hid fun A' W hW => refValGet_no hW HBp.out (by omega) hok
            clear hok hst hgr
            go_wp2_with fail
            refine (PV.out _ _ (HS2.out.below hbel)).mono ?_
            rintro e w4 ⟨rfl, b4⟩
            have B4 := below_new (below_then hbel b4) (.cells #[.int .i64 0, .int .i64 0, .string ⟨#[]⟩] 44)
            clear hsl2
            go_wp2
            go_ret3
            exact got_no hN.out B4
          | true =>
            obtain ⟨x, h, h1, hh, hgr2, PV⟩ : ∃ (x : V3) (h : Nat), 1 ≤ h ∧ p + h ≤ n ∧ Hid (rowGetZ l = (getsZ (k - (j + 1)) (l.drop (p + h))).map (fun q => ((done ++ [x]) ++ q.1, (p + h) + q.2))) ∧
                Hid (∀ A' W, Rd W A' (n - p) (c - p) (vals .u8 (l.drop p)) → Calls Try.prog 42 #[.slice A' (n - p) (c - p)] W fun e W' => e = .returned (.tuple #[x.agg, .int .i64 (h : Int), .int .i64 0]) ∧ Below W.heap.size W W') := by
              have hl := hL_is HBp.out hok
              rw [List.length_drop, HLL.out] at hl
              refine ⟨hV (l.drop p), hL (l.drop p), hl.2.1, by omega, ?_, Lib.hid fun A' W hW => refValGet_yes hW HBp.out (by omega) hok⟩
              show _ = _
              rw [hgr.out, hst, if_pos hok, List.drop_drop, Option.map_map]
              congr 1
              funext q
              simp [Nat.add_assoc]
            have hsum : ((p : Int) + h) ≤ 9223372036854775807 := by omega
            clear hok hst hgr
            go_wp2_with fail
            refine (PV.out _ _ (HS2.out.below hbel)).mono ?_
            rintro e w4 ⟨rfl, b4⟩
            have B4 := below_new (below_then hbel b4) (.cells #[.int .i64 x.k, .int .i64 x.n, .string x.s] 44)
            have hown4 := (own_below hown b4).alloc (.cells #[.int .i64 x.k, .int .i64 x.n, .string x.s] 44)
            have hsz4 := B4.size
            clear hsl2
            go_wp2_with (at_builtin; refine wpList_push3 rfl (.tmp 40) (.tmp 42) rfl w.heap.size _ _ done x (w4.heap.size + 1) (by simp) rfl rfl hown4 (by omega) B4 hsz4 ?_; intro v3 w5 hown5 B5 hsz5)
            refine ⟨⟨j + 1, p + h, done ++ [x], by omega, by go_num, by go_num, hh, by omega, by simp [hdl], hgr2, hown5, B5⟩, by simp [intOf]; omega⟩
        · obtain rfl : j = k := by omega
          have hY : Hid (rowGetZ l = some (done, p)) := by
            show _ = _
            rw [hgr.out, Nat.sub_self, getsZ]; simp
          obtain ⟨A3, c3, rfl, hrd3⟩ := RdG.own_ v3len (by omega) hown
          have HW := Lib.hid hrd3
          clear hgr hrd3
          go_wp2
          go_ret3
          exact got_yes hY.out hdl hbel HW.out
end Go.Proofs.Ytijhcoidhlmecaa
