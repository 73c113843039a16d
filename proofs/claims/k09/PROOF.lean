import PyProof.Rows.All
import Wide.All
import OpenK.AllK
import Wide.FinOn
import HandS.ForMost
import HandS.ForExc
import HandS.Wide
import HandS.IsInst
import HandS.ExcInit
import HandS.ExcField
import HandS.Conv
import HandS.TupLe
import HandS.TryOnly
import HandS.ExcIs
import HandS.Codes
import HandS.Zip
import HandS.Deep
import HandS.TupSets
import HandS.NoneIn
import KE.KExcIs
import PySem.Challenge.RW_joinedguests_k09_whole_readings_of_three
set_option Elab.async false
set_option linter.all false
set_option maxRecDepth 100000
set_option maxHeartbeats 2000000
namespace J
open PySem PySem.Spec PyProof.Rows L2
def top (i : Nat) : Stmt := PySem.Challenge.pw_joinedguests_k09_whole_readings_of_three.main.body.getD i (.Pass ⟨0, 0, 0, 0⟩)
/-! ### a def that may be called -/
structure Cal (P : Program) (w : World) (K : PySem.W.Frag) (mg : Str → Option Value) (base : Heap) (CX : CXT) (k : Nat) (x : Str) (f : Addr) (fd : FuncData) (ps : List Str) (sp : Sp) : Prop where
  F : FnOk P w K mg base CX k f fd ps sp
  m : mg x = some (.ref f)
  kp : PySem.W.keepIn K (.ref f) = true
  b : Binds K fd ps []
section
variable {X : Cx} {CX : CXT} {k j : Nat} {x : Str} {f : Addr} {fd : FuncData} {ps : List Str} {sp : Sp} {E : XK} {p pos : Pos} {e : Expr} {es : List Expr} {t : TA}
theorem pcal (c : Cal X.prog X.w X.K X.mg X.base CX k x f fd ps sp) (hr : Room j X.A) (hx : Passes CX X E) (ha : PA X (e :: es) t) (hk : k ≤ j := by decide) (hg : Gl X x := by rfl)
    (hdb : (x == ("__debug__" : Str)) = false := by decide) (he : starEach (e :: es) X.env = (false, eval e X.env) :: starEach es X.env := by rfl) (hpl : (backTo pos (starEach es X.env)).any (·.1) = false := by rfl) :
    PE X (.Call (.Name x p) (e :: es) [] pos) (tCall sp [] E t) := pe_call c.F (hr.mono hk) hg c.m c.kp c.b .nil hx ha hdb he hpl
end
/-! ### loops over enumerate -/
theorem for_enum {K : PySem.W.Frag} {a : Addr} {xs : List V} {g : TG} {tb : TS} {D : Ends} {σ : L2.St} {H : Hp} (Pv : Nat → L2.St → Hp → Prop) (h0 : Pv 0 σ H) (hl : ∀ i σ H, i ≤ xs.length → Pv i σ H → SqL K H a xs)
    (hs : ∀ i x σ H T, xs[i]? = some x → Pv i σ H → H T = none → g (.ref T) σ (upd H T (.tup [.int (i : Nat), x])) fun σ2 H2 => tb { D with nx := Pv (i + 1), ct := Pv (i + 1), bk := D.nx } σ2 H2) (hd : ∀ σ H, Pv xs.length σ H → D.nx σ H) :
    ∃ W : Nat → Nat → L2.St → Hp → Prop, (∃ m, W 0 m σ H) ∧ ∀ i m σ H, W i m σ H →
      ((Ite K a).stop i H ∧ D.nx σ H) ∨ ((Ite K a).go i H ∧ ∃ N : L2.St → Hp → Prop, (∀ σ' H', N σ' H' → ∃ m', m' < m ∧ W (i + 1) m' σ' H') ∧ ∀ x H', (Ite K a).yld i H x H' → g x σ H' fun σ2 H2 => tb { D with nx := N, ct := N, bk := D.nx } σ2 H2) := by
  refine ⟨fun i m s h => m + i = xs.length ∧ Pv i s h, ⟨xs.length, rfl, h0⟩, ?_⟩
  rintro i m σ H ⟨em, p⟩
  have hi : i ≤ xs.length := by omega
  have q := hl i σ H hi p
  rcases Nat.lt_or_ge i xs.length with hlt | hge
  · refine .inr ⟨⟨xs, xs[i], q, by simp [hlt]⟩, Pv (i + 1), fun σ' H' p' => ⟨m - 1, by omega, by omega, p'⟩, ?_⟩
    rintro x H' ⟨T, y, rfl, hT, rfl, hy⟩
    exact hs i y σ H T (hy xs q) p hT
  · have e : i = xs.length := by omega
    subst e
    exact .inl ⟨⟨xs, q, Nat.le_refl _⟩, hd σ H p⟩

/-! ### mix -/
abbrev s_Lmix : Stmt := top 19
theorem sc_Lmix : FnScope ["_law_number", "_law_turn", "_law_once", "_law_twice"] ["_law_number", "_law_turn"] (defScope s_Lmix) := ⟨rfl, rfl, rfl, by decide +kernel, rfl, by decide +kernel, by decide +kernel⟩
def spMix : Sp := fun vs H Q _ => ∃ n t : Int, vs = [.int n, .int t] ∧ ∀ r : Int, 0 ≤ r → Q (.int r) H
section
variable {P : Program} {w : World} {K : PySem.W.Frag} {mg : Str → Option Value} {base : Heap}
theorem ok_Lmix {f : Addr} {fd : FuncData} (F : Fun K "_law_mix" "_law_mix" s_Lmix f fd) (ni : mg "int" = none) : FnOk P w K mg base CX0 1 f fd ["_law_number", "_law_turn"] spMix := by
  refine F.ok sc_Lmix (fun vs H Q E h => ?_) (fun cdv A outer s H vs Q E hr h => ?_)
  · obtain ⟨n, t, rfl, _⟩ := h
    rfl
  · obtain ⟨n, t, rfl, k⟩ := h
    refine ⟨_, (pss_cons 
  (ps_set (i := 2) sc_Lmix.nd rfl (Or.inl rfl) (pe_op op_mod (pe_callTy call_int1 (by rfl) ni (by decide +kernel) (pa_cons (pe_op op_add (pe_op op_add (pe_op op_mul (pv 0) pe_int) (pe_op op_mul (pv 1) pe_int)) pe_int) pa_nil)) pe_int)) (pss_cons 
  (ps_set (i := 3) sc_Lmix.nd rfl (Or.inl rfl) (pe_op op_mod (pe_callTy call_int1 (by rfl) ni (by decide +kernel) (pa_cons (pe_op op_add (pe_op op_add (pe_op op_mul (pv 2) (pv 2)) (pe_op op_mul (pe_op op_fdiv (pv 2) pe_int) pe_int)) (pe_op op_mul (pv 1) pe_int)) pa_nil)) pe_int)) (pss_one 
  (ps_ret (pe_op op_fdiv (pe_op op_mod (pe_callTy call_int1 (by rfl) ni (by decide +kernel) (pa_cons (pe_op op_add (pe_op op_fdiv (pe_op op_mul (pv 3) (pv 3)) pe_int) (pv 2)) pa_nil)) pe_int) pe_int))))), ?_⟩
    refine ⟨_, rfl, _, _, rfl, rfl, .inr (by decide), _, rfl, _, _, rfl, rfl, .inr (by decide), _, _, rfl, rfl, _, _, rfl, rfl, .inl ⟨_, rfl, ?_⟩⟩
    refine ⟨_, _, rfl, rfl, (by show (0 : Int) < 2147483647; decide), ?_⟩
    have b1 := Int.emod_nonneg (n * 48271 + t * 16807 + 11) (b := 2147483647) (by decide)
    have b2 := Int.emod_lt_of_pos (n * 48271 + t * 16807 + 11) (b := 2147483647) (by decide)
    generalize (n * 48271 + t * 16807 + 11) % 2147483647 = o at b1 b2 ⊢
    refine ⟨_, rfl, _, rfl, _, _, rfl, rfl, .inl ⟨by omega, by omega⟩, ?_⟩
    refine ⟨_, rfl, _, _, rfl, rfl, ⟨by decide, by decide⟩, _, _, rfl, rfl, .inr (by decide), _, _, rfl, rfl, _, rfl, _, _, rfl, rfl, .inr (by decide), _, _, rfl, rfl, .inl ⟨_, rfl, ?_⟩⟩
    refine ⟨_, _, rfl, rfl, (by show (0 : Int) < 2147483399; decide), ?_⟩
    have b3 := Int.emod_nonneg (o * o + o / 127 * 40692 + t * 69621) (b := 2147483399) (by decide)
    have b4 := Int.emod_lt_of_pos (o * o + o / 127 * 40692 + t * 69621) (b := 2147483399) (by decide)
    generalize (o * o + o / 127 * 40692 + t * 69621) % 2147483399 = u at b3 b4 ⊢
    refine ⟨_, rfl, _, rfl, _, _, rfl, rfl, .inl ⟨by omega, by omega⟩, _, _, rfl, rfl, ⟨by decide, by decide⟩, _, rfl, _, _, rfl, rfl, .inl ⟨_, rfl, ?_⟩⟩
    refine ⟨_, _, rfl, rfl, (by show (0 : Int) < 2147483563; decide), _, _, rfl, rfl, ⟨by decide, by decide⟩, k _ ?_⟩
    have b5 := Int.emod_nonneg (u * u / 1009 + o) (b := 2147483563) (by decide)
    omega
end
end J

set_option Elab.async false
set_option linter.all false
set_option maxRecDepth 100000
set_option maxHeartbeats 2000000
namespace J
open PySem PySem.Spec PyProof.Rows L2
/-! ### the hand that is drawn from -/
/-- at h the hand stands: its cells at q -/
def Hand (H : Hp) (h q : Addr) : Prop := ∃ (cs : List Int) (i r t : Int), H h = some (.lst [.ref q, .int i, .int r, .int t]) ∧ H q = some (.lst (cs.map V.int)) ∧ q ≠ h ∧ 0 ≤ i ∧ 0 ≤ r ∧ 0 ≤ t ∧ t < 2147483629 ∧ (∀ c ∈ cs, 0 ≤ c) ∧ cs.length ≤ 63
/-- all that was tracked stands as it stood, but for what is at h -/
def But (h : Addr) (H H' : Hp) : Prop := ∀ b o, b ≠ h → H b = some o → H' b = some o
theorem But.refl (h : Addr) (H : Hp) : But h H H := fun _ _ _ e => e
theorem But.trans {h : Addr} {H H1 H2 : Hp} (a : But h H H1) (b : But h H1 H2) : But h H H2 := fun c o n e => b c o n (a c o n e)
theorem But.put {h : Addr} {H : Hp} {o : HO} : But h H (upd H h o) := fun c u n e => by rw [upd_ne n]; exact e
theorem But.new {h a : Addr} {H : Hp} {o : HO} (n : H a = none) : But h H (upd H a o) := fun c u _ e => by rw [upd_ne (ne_of_none e n)]; exact e
theorem But.same {h : Addr} {H H1 : Hp} (s : Same H H1) : But h H H1 := fun c o _ e => s c o e
theorem Hand.keep {H H' : Hp} {h q : Addr} (x : Hand H h q) (s : Same H H') : Hand H' h q := by
  obtain ⟨cs, i, r, t, e1, e2, z⟩ := x
  exact ⟨cs, i, r, t, s _ _ e1, s _ _ e2, z⟩
theorem Hand.put {H : Hp} {h q a : Addr} {o : HO} (x : Hand H h q) (n1 : h ≠ a) (n2 : q ≠ a) : Hand (upd H a o) h q := by
  obtain ⟨cs, i, r, t, e1, e2, z⟩ := x
  exact ⟨cs, i, r, t, by rw [upd_ne n1]; exact e1, by rw [upd_ne n2]; exact e2, z⟩
theorem Hand.new {H : Hp} {h q a : Addr} {o : HO} (x : Hand H h q) (n : H a = none) : Hand (upd H a o) h q :=
  x.keep fun c u e => by rw [upd_ne (ne_of_none e n)]; exact e
theorem yesT {A B : Hp → Prop} {σ : L2.St} {H : Hp} (h : A H) : tYes σ H (fun b H3 => if b = true then A H3 else B H3) := by
  show if true = true then A H else B H
  rw [if_pos rfl]
  exact h
abbrev s_Lhand : Stmt := top 20
theorem sc_Lhand : FnScope ["_law_script", "_law_total", "_law_k", "_law_cell"] ["_law_script"] (defScope s_Lhand) := ⟨rfl, rfl, rfl, by decide +kernel, rfl, by decide +kernel, by decide +kernel⟩
def spHand (K : PySem.W.Frag) : Sp := fun vs H Q _ => ∃ (a : Addr) (ns : List Int), vs = [.ref a] ∧ SqL K H a (ns.map V.int) ∧ ns.length ≤ 63 ∧ ∀ (H' : Hp) (h q : Addr), Same H H' → H h = none → H q = none → Hand H' h q → Q (.ref h) H'
section
variable {P : Program} {w : World} {K : PySem.W.Frag} {mg : Str → Option Value} {base : Heap}
theorem ok_Lhand {f : Addr} {fd : FuncData} (F : Fun K "_law_hand" "_law_hand" s_Lhand f fd) (ni : mg "int" = none) (na : mg "abs" = none) (ne : mg "enumerate" = none) : FnOk P w K mg base CX0 1 f fd ["_law_script"] (spHand K) := by
  refine F.ok sc_Lhand (fun vs H Q E h => ?_) (fun cdv A outer s H vs Q E hr h => ?_)
  · obtain ⟨a, ns, rfl, _⟩ := h
    rfl
  · obtain ⟨a, ns, rfl, hS, hn, k⟩ := h
    refine ⟨_, (pss_cons 
  (ps_set (i := 1) sc_Lhand.nd rfl (Or.inl rfl) pe_int) (pss_cons 
  (ps_for PassesOwn.never rfl (pi_enum (by rfl) ne (pa_cons (pv 0) pa_nil)) (pg_tup (by rfl) (pgs_cons (pg_name (i := 2) sc_Lhand.nd rfl (Or.inl rfl)) (pgs_cons (pg_name (i := 3) sc_Lhand.nd rfl (Or.inl rfl)) pgs_nil))) (pss_one 
    (ps_set (i := 1) sc_Lhand.nd rfl (Or.inl rfl) (pe_op op_mod (pe_callTy call_int1 (by rfl) ni (by decide +kernel) (pa_cons (pe_op op_add (pe_op op_mul (pv 1) pe_int) (pe_op op_mul (pe_callTy call_int1 (by rfl) ni (by decide +kernel) (pa_cons (pv 3) pa_nil)) (pe_op op_add (pv 2) pe_int))) pa_nil)) pe_int)))) (pss_one 
  (ps_ret (pe_lst (pa_cons (pe_lc (own := [("_law_cell", 3)]) (g := gName 3) (by rfl) sc_Lhand.nd (pi_list (pv 0)) (blkOk_by (own := [("_law_cell", 3)]) (N := ["_law_script", "_law_total", "_law_k", "_law_cell"]) (sc := defScope s_Lhand) (by decide +kernel)) (fun _ _ _ _ _ => pg_name (i := 3) sc_Lhand.nd rfl (Or.inl rfl)) (fun _ _ _ _ _ => pts_nil) (fun _ _ _ _ _ => (pe_callB call_abs (by rfl) na (by decide +kernel) (pa_cons (pe_callTy call_int1 (by rfl) ni (by decide +kernel) (pa_cons (pv 3) pa_nil)) pa_nil)))) (pa_cons pe_int (pa_cons pe_int (pa_cons (pv 1) pa_nil))))))))), ?_⟩
    refine ⟨_, rfl, a, _, rfl, hS, for_enum (K := K) (a := a) (xs := ns.map V.int) (fun i σ H' => ∃ (t : Int) (v2 v3 : Option V), σ = [some (.ref a), some (.int t), v2, v3] ∧ Same H H' ∧ 0 ≤ t ∧ t < 2147483629)
      ⟨0, none, none, rfl, Same.refl H, by decide, by decide⟩ (fun i σ H' _ ⟨_, _, _, _, S, _⟩ => S.seq hS) ?_ ?_⟩
    · rintro i x σ H' T hx ⟨t, v2, v3, rfl, S, t0, t1⟩ hT
      obtain ⟨c, rfl⟩ : ∃ c, x = V.int c := by
        rw [List.getElem?_map] at hx
        cases e : ns[i]? with
        | none => rw [e] at hx; cases hx
        | some c => rw [e] at hx; exact ⟨c, (Option.some.inj hx).symm⟩
      have hi : i < 63 := by
        have q := (List.getElem?_eq_some_iff.mp hx).1
        rw [List.length_map] at q
        omega
      refine ⟨T, _, rfl, SqT.of upd_same, rfl, _, _, rfl, _, _, rfl, rfl, ?_⟩
      refine ⟨_, rfl, _, _, rfl, rfl, .inr (by decide), _, rfl, .inl ⟨_, rfl, _, rfl, _, _, rfl, rfl, _, _, rfl, rfl, .inr ⟨by omega, by omega⟩, _, _, rfl, rfl, .inl ⟨_, rfl, _, _, rfl, rfl, (by show (0 : Int) < 2147483629; decide), ?_⟩⟩⟩
      refine ⟨_, _, _, rfl, fun b o e => ?_, Int.emod_nonneg _ (by decide), Int.emod_lt_of_pos _ (by decide)⟩
      rw [upd_ne (ne_of_none (S _ _ e) hT)]
      exact S _ _ e
    · rintro σ H' ⟨t, v2, v3, rfl, S, t0, t1⟩
      refine ⟨_, rfl, a, rfl, ⟨_, S.seq hS⟩, fun D hD => ?_⟩
      refine lc_list (K := K) (a := a) (xs := ns.map V.int) (fun i H1 => Same H H1 ∧ H D = none ∧ H1 D = some (.lst ((ns.take i).map fun c => V.int (if c < 0 then -c else c)))) ⟨fun b o e => ?_, S.free hD, upd_same⟩ (fun i H1 _ ⟨S1, _⟩ => S1.seq hS) ?_ ?_
      · rw [upd_ne (ne_of_none (S _ _ e) hD)]
        exact S _ _ e
      · rintro i x H1 hx ⟨S1, D0, e1⟩
        obtain ⟨c, hc, rfl⟩ : ∃ c, ns[i]? = some c ∧ x = V.int c := by
          rw [List.getElem?_map] at hx
          cases e : ns[i]? with
          | none => rw [e] at hx; cases hx
          | some c => rw [e] at hx; exact ⟨c, rfl, (Option.some.inj hx).symm⟩
        refine ⟨rfl, yesT ?_⟩
        refine ⟨_, rfl, .inl ⟨_, rfl, _, rfl, _, e1, ?_, fun b o e => ?_, D0, ?_⟩⟩
        · rw [List.length_map, List.length_take]
          exact small1000 (by omega)
        · rw [upd_ne (ne_of_none e D0)]
          exact S1 _ _ e
        · rw [upd_same, List.take_add_one, hc, List.map_append]
          rfl
      · rintro H1 ⟨S1, D0, e1⟩
        rw [List.length_map, List.take_length] at e1
        refine ⟨_, rfl, (by show 4 ≤ sizeLine; decide), fun p hp => k _ p D (fun b o e => ?_) (S1.free hp) D0 ?_⟩
        · rw [upd_ne (ne_of_none (S1 _ _ e) hp)]
          exact S1 _ _ e
        · refine ⟨ns.map fun c => if c < 0 then -c else c, 0, 0, t, upd_same, ?_, ne_of_none e1 hp, by decide, by decide, t0, t1, ?_, by rw [List.length_map]; exact hn⟩
          · rw [upd_ne (ne_of_none e1 hp), e1, List.map_map]
            rfl
          · intro c hc
            obtain ⟨z, _, rfl⟩ := List.mem_map.mp hc
            split <;> omega
end
end J

set_option Elab.async false
set_option linter.all false
set_option maxRecDepth 100000
set_option maxHeartbeats 2000000
namespace J
open PySem PySem.Spec PyProof.Rows L2
theorem ifD {c A B : Prop} [Decidable c] (h1 : c → A) (h2 : ¬ c → B) : if decide c = true then A else B := by
  by_cases h : c
  · rw [if_pos (decide_eq_true h)]
    exact h1 h
  · rw [if_neg (by simp [h])]
    exact h2 h
theorem v_int {a b : Int} (h : a = b) : V.int a = V.int b := by rw [h]
abbrev s_Ldraw : Stmt := top 21
theorem sc_Ldraw : FnScope ["_law_hand_here", "_law_many", "_law_cell", "_law_rest"] ["_law_hand_here", "_law_many"] (defScope s_Ldraw) := ⟨rfl, rfl, rfl, by decide +kernel, rfl, by decide +kernel, by decide +kernel⟩
def spDraw : Sp := fun vs H Q _ => ∃ (h q : Addr) (m : Int), vs = [.ref h, .int m] ∧ 0 < m ∧ m < 2 ^ 62 ∧ Hand H h q ∧ ∀ (v : Int) (H' : Hp), 0 ≤ v → v < m → But h H H' → Hand H' h q → Q (.int v) H'
theorem hand_put {H : Hp} {h q : Addr} {cs : List Int} {i r t : Int} (e2 : H q = some (.lst (cs.map V.int))) (nq : q ≠ h) (i0 : 0 ≤ i) (r0 : 0 ≤ r) (t0 : 0 ≤ t) (t1 : t < 2147483629) (hc : ∀ c ∈ cs, 0 ≤ c) (hl : cs.length ≤ 63) :
    Hand (upd H h (.lst [.ref q, .int i, .int r, .int t])) h q := ⟨cs, i, r, t, upd_same, by rw [upd_ne nq]; exact e2, nq, i0, r0, t0, t1, hc, hl⟩
theorem fmod_in {a m : Int} (h : 0 < m) : 0 ≤ a.fmod m ∧ a.fmod m < m := by
  rw [Int.fmod_eq_emod_of_nonneg a (by omega)]
  exact ⟨Int.emod_nonneg _ (by omega), Int.emod_lt_of_pos _ h⟩
section
variable {P : Program} {w : World} {K : PySem.W.Frag} {mg : Str → Option Value} {base : Heap}
theorem ok_Ldraw {f fM : Addr} {fd fdM : FuncData} (F : Fun K "_law_draw" "_law_draw" s_Ldraw f fd) (ni : mg "int" = none) (nl : mg "len" = none) (GM : Cal P w K mg base CX0 1 "_law_mix" fM fdM ["_law_number", "_law_turn"] spMix) : FnOk P w K mg base CX0 2 f fd ["_law_hand_here", "_law_many"] spDraw := by
  refine F.ok sc_Ldraw (fun vs H Q E h => ?_) (fun cdv A outer s H vs Q E hr h => ?_)
  · obtain ⟨n, q, t, rfl, _⟩ := h
    rfl
  · obtain ⟨h, q, m, rfl, m0, m1, ⟨cs, i, r, t, e1, e2, nq, i0, r0, t0, t1, hc, hl⟩, k⟩ := h
    refine ⟨_, (C8.pss_cut 
  (ps_if (PW.pt (pw_and (pt_cmpR op_eq (pe_ix ix_list (pv 0) pe_int (fun _ _ => rfl)) pe_int (nomark _)) (pw_and1 (pt_cmpR op_lt (pe_ix ix_list (pv 0) pe_int (fun _ _ => rfl)) (pe_callB call_len_seq (by rfl) nl PySem.boot_len (pa_cons (pe_ix ix_list (pv 0) pe_int (fun _ _ => rfl)) pa_nil)) (nomark _))))) (pss_cons 
    (ps_set (i := 2) sc_Ldraw.nd rfl (Or.inl rfl) (pe_ix ix_list (pe_ix ix_list (pv 0) pe_int (fun _ _ => rfl)) (pe_ix ix_list (pv 0) pe_int (fun _ _ => rfl)) (fun _ _ => rfl))) (pss_cons 
    (ps_asg (pe_op op_add (pe_ix ix_list (pv 0) pe_int (fun _ _ => rfl)) pe_int) (pg_sub (pv 0) pe_int set_list)) (pss_cons 
    (ps_if (pt_cmpR op_lt (pv 2) (pe_op op_pow pe_int pe_int) (nomark _)) (pss_one 
      (ps_ret (pe_op op_modN (pe_callTy call_int1 (by rfl) ni (by decide +kernel) (pa_cons (pcal GM hr pass0 (pa_cons (pe_op op_mod (pe_callTy call_int1 (by rfl) ni (by decide +kernel) (pa_cons (pv 2) pa_nil)) pe_int) (pa_cons (pe_ix ix_list (pv 0) pe_int (fun _ _ => rfl)) pa_nil))) pa_nil)) (pv 1)))) pss_nil) (pss_one 
    (ps_asg (pv 2) (pg_sub (pv 0) pe_int set_list)))))) pss_nil) (pss_cons 
  (ps_if (pt_cmpR op_gt (pe_ix ix_list (pv 0) pe_int (fun _ _ => rfl)) pe_int (nomark _)) (pss_cons 
    (ps_set (i := 3) sc_Ldraw.nd rfl (Or.inl rfl) (pe_ix ix_list (pv 0) pe_int (fun _ _ => rfl))) (pss_cons 
    (ps_asg (pe_op op_fdivW (pv 3) (pv 1)) (pg_sub (pv 0) pe_int set_list)) (pss_one 
    (ps_ret (pe_op op_modN (pe_callTy call_int1 (by rfl) ni (by decide +kernel) (pa_cons (pv 3) pa_nil)) (pv 1)))))) pss_nil) (pss_cons 
  (ps_asg (pe_op op_mod (pe_callTy call_int1 (by rfl) ni (by decide +kernel) (pa_cons (pe_op op_add (pe_ix ix_list (pv 0) pe_int (fun _ _ => rfl)) pe_int) pa_nil)) pe_int) (pg_sub (pv 0) pe_int set_list)) (pss_one 
  (ps_ret (pe_op op_modN (pe_callTy call_int1 (by rfl) ni (by decide +kernel) (pa_cons (pcal GM hr pass0 (pa_cons (pe_ix ix_list (pv 0) pe_int (fun _ _ => rfl)) (pa_cons (pe_ix ix_list (pv 0) pe_int (fun _ _ => rfl)) pa_nil))) pa_nil)) (pv 1))))))), ?_⟩
    refine ⟨fun σ' H' => ∃ (v2 : Option V) (i r t : Int), σ' = [some (.ref h), some (.int m), v2, none] ∧ But h H H' ∧ H' h = some (.lst [.ref q, .int i, .int r, .int t]) ∧ 0 ≤ i ∧ 0 ≤ r ∧ 0 ≤ t ∧ t < 2147483629, ?_, ?_⟩
    · -- hand[2] == 0
      refine ⟨_, rfl, _, _, _, _, rfl, rfl, SqL.of e1, rfl, rfl, _, rfl, ?_⟩
      refine ifD (fun c1 => ?_) (fun c1 => iteF ⟨none, i, r, t, rfl, But.refl h H, e1, i0, r0, t0, t1⟩)
      refine ⟨_, rfl, _, _, _, _, rfl, rfl, SqL.of e1, rfl, _, rfl, _, _, _, _, rfl, rfl, SqL.of e1, rfl, _, _, rfl, .inl (SqL.of e2), _, _, rfl, rfl, _, rfl, ?_⟩
      refine ifD (fun c2 => ?_) (fun c2 => ⟨none, i, r, t, rfl, But.refl h H, e1, i0, r0, t0, t1⟩)
      rw [List.length_map] at c2
      have hi : i.toNat < cs.length := by omega
      have hic : ((i.toNat : Nat) : Int) = i := Int.toNat_of_nonneg i0
      have hat : (cs.map V.int)[i.toNat]? = some (V.int cs[i.toNat]) := by
        rw [List.getElem?_map, List.getElem?_eq_getElem hi]
        rfl
      have cp : 0 ≤ cs[i.toNat] := hc _ (List.getElem_mem hi)
      generalize cs[i.toNat] = c at hat cp
      refine ⟨_, rfl, _, _, _, _, rfl, rfl, SqL.of e1, rfl, _, rfl, _, _, _, _, rfl, rfl, SqL.of e1, rfl, _, _, _, _, rfl, rfl, SqL.of e2, at_of hic.symm hat, ?_⟩
      refine ⟨_, rfl, _, _, _, _, rfl, rfl, SqL.of e1, rfl, _, _, rfl, rfl, _, rfl, _, _, _, _, rfl, rfl, e1, rfl, ?_⟩
      have e3 : (upd H h (.lst [.ref q, .int (i + 1), .int r, .int t])) h = some (.lst [.ref q, .int (i + 1), .int r, .int t]) := upd_same
      refine ⟨_, rfl, _, _, rfl, rfl, ⟨by decide, by decide, by decide⟩, _, _, rfl, rfl, _, rfl, ?_⟩
      refine ifD (fun c3 => ?_) (fun c3 => ?_)
      · refine ⟨_, rfl, .inl ⟨_, rfl, _, _, rfl, rfl, (by show (0 : Int) < 2147483647; decide), _, rfl, _, _, _, _, rfl, rfl, SqL.of e3, rfl, _, _, rfl, fun z z0 => .inl ⟨_, rfl, _, rfl, _, _, rfl, rfl, (by show m ≠ 0; omega), ?_⟩⟩⟩
        exact k _ _ (fmod_in m0).1 (fmod_in m0).2 But.put (hand_put e2 nq (by omega) r0 t0 t1 hc hl)
      · refine ⟨_, rfl, _, rfl, _, _, _, _, rfl, rfl, e3, rfl, ?_⟩
        exact ⟨_, i + 1, c, t, rfl, But.put.trans But.put, upd_same, by omega, cp, t0, t1⟩
    · rintro σ' H' ⟨v2, i, r, t, rfl, B1, e1, i0, r0, t0, t1⟩
      have e2' := B1 _ _ nq e2
      refine ⟨_, rfl, _, _, _, _, rfl, rfl, SqL.of e1, rfl, _, _, rfl, rfl, _, rfl, ?_⟩
      refine ifD (fun c1 => ?_) (fun c1 => ?_)
      · refine ⟨_, rfl, _, _, _, _, rfl, rfl, SqL.of e1, rfl, _, rfl, _, rfl, _, _, rfl, rfl, wide_div (b := 62) m0 (by omega) (by decide) (by decide), _, rfl, _, _, _, _, rfl, rfl, e1, rfl, ?_⟩
        refine ⟨_, rfl, .inl ⟨_, rfl, _, rfl, _, _, rfl, rfl, (by show m ≠ 0; omega), ?_⟩⟩
        exact k _ _ (fmod_in m0).1 (fmod_in m0).2 (B1.trans But.put) (hand_put e2' nq i0 (Int.ediv_nonneg r0 (by omega)) t0 t1 hc hl)
      · refine ⟨_, rfl, _, _, _, _, rfl, rfl, SqL.of e1, rfl, _, _, rfl, rfl, .inl ⟨_, rfl, _, _, rfl, rfl, (by show (0 : Int) < 2147483629; decide), _, rfl, _, _, _, _, rfl, rfl, e1, rfl, ?_⟩⟩
        have e3 : (upd H' h (.lst [.ref q, .int i, .int r, .int ((t + 1) % 2147483629)])) h = some (.lst [.ref q, .int i, .int r, .int ((t + 1) % 2147483629)]) := upd_same
        refine ⟨_, rfl, _, _, _, _, rfl, rfl, SqL.of e3, rfl, _, rfl, _, _, _, _, rfl, rfl, SqL.of e3, rfl, _, _, rfl, fun z z0 => .inl ⟨_, rfl, _, rfl, _, _, rfl, rfl, (by show m ≠ 0; omega), ?_⟩⟩
        exact k _ _ (fmod_in m0).1 (fmod_in m0).2 (B1.trans But.put) (hand_put e2' nq i0 r0 (Int.emod_nonneg _ (by decide)) (Int.emod_lt_of_pos _ (by decide)) hc hl)
end
end J

set_option Elab.async false
set_option linter.all false
set_option maxRecDepth 100000
set_option maxHeartbeats 2000000
namespace J
open PySem PySem.Spec PyProof.Rows L2
/-! ### things of many kinds -/
/-- the shape of a thing -/
inductive Sh where
  | sc (v : V) | dk | lst (xs : List V) | tup (xs : List V)
def isSc : V → Bool
  | .non => true | .bl _ => true | .int _ => true | .str _ => true | _ => false
def Is (H : Hp) (x : V) : Sh → Prop
  | .sc v => x = v ∧ isSc v = true
  | .dk => ∃ a kvs, x = .ref a ∧ H a = some (.dK kvs)
  | .lst xs => ∃ a, x = .ref a ∧ H a = some (.lst xs)
  | .tup xs => ∃ a, x = .ref a ∧ H a = some (.tup xs)
def Sh.int : Sh → Bool
  | .sc (.int _) => true | _ => false
def Sh.bl : Sh → Bool
  | .sc (.bl _) => true | _ => false
def Sh.isL : Sh → Bool
  | .lst _ => true | _ => false
def Sh.isT : Sh → Bool
  | .tup _ => true | _ => false
theorem Is.keep {H H' : Hp} {x : V} {s : Sh} (h : Is H x s) (S : Same H H') : Is H' x s := by
  cases s with
  | sc v => exact h
  | dk => obtain ⟨a, kvs, e, q⟩ := h; exact ⟨a, kvs, e, S _ _ q⟩
  | lst xs => obtain ⟨a, e, q⟩ := h; exact ⟨a, e, S _ _ q⟩
  | tup xs => obtain ⟨a, e, q⟩ := h; exact ⟨a, e, S _ _ q⟩
theorem kt_NoneType_int : kitB "NoneType" "int" = some false := by decide +kernel
theorem kt_NoneType_bool : kitB "NoneType" "bool" = some false := by decide +kernel
theorem kt_NoneType_list : kitB "NoneType" "list" = some false := by decide +kernel
theorem kt_NoneType_tuple : kitB "NoneType" "tuple" = some false := by decide +kernel
theorem kt_bool_int : kitB "bool" "int" = some true := by decide +kernel
theorem kt_bool_bool : kitB "bool" "bool" = some true := by decide +kernel
theorem kt_bool_list : kitB "bool" "list" = some false := by decide +kernel
theorem kt_bool_tuple : kitB "bool" "tuple" = some false := by decide +kernel
theorem kt_int_int : kitB "int" "int" = some true := by decide +kernel
theorem kt_int_bool : kitB "int" "bool" = some false := by decide +kernel
theorem kt_int_list : kitB "int" "list" = some false := by decide +kernel
theorem kt_int_tuple : kitB "int" "tuple" = some false := by decide +kernel
theorem kt_str_int : kitB "str" "int" = some false := by decide +kernel
theorem kt_str_bool : kitB "str" "bool" = some false := by decide +kernel
theorem kt_str_list : kitB "str" "list" = some false := by decide +kernel
theorem kt_str_tuple : kitB "str" "tuple" = some false := by decide +kernel
theorem kt_dict_int : kitB "dict" "int" = some false := by decide +kernel
theorem kt_dict_bool : kitB "dict" "bool" = some false := by decide +kernel
theorem kt_dict_list : kitB "dict" "list" = some false := by decide +kernel
theorem kt_dict_tuple : kitB "dict" "tuple" = some false := by decide +kernel
theorem kt_list_int : kitB "list" "int" = some false := by decide +kernel
theorem kt_list_bool : kitB "list" "bool" = some false := by decide +kernel
theorem kt_list_list : kitB "list" "list" = some true := by decide +kernel
theorem kt_list_tuple : kitB "list" "tuple" = some false := by decide +kernel
theorem kt_tuple_int : kitB "tuple" "int" = some false := by decide +kernel
theorem kt_tuple_bool : kitB "tuple" "bool" = some false := by decide +kernel
theorem kt_tuple_list : kitB "tuple" "list" = some false := by decide +kernel
theorem kt_tuple_tuple : kitB "tuple" "tuple" = some true := by decide +kernel
theorem Is.ty {K : PySem.W.Frag} {H : Hp} {x : V} {s : Sh} (h : Is H x s) : ∃ t : String, TyX K H x (.type t) ∧ kitB t "int" = some (s.int || s.bl) ∧ kitB t "bool" = some s.bl ∧ kitB t "list" = some s.isL ∧ kitB t "tuple" = some s.isT := by
  cases s with
  | sc v =>
    obtain ⟨rfl, e⟩ := h
    cases x with
    | non => exact ⟨_, .base .non, kt_NoneType_int, kt_NoneType_bool, kt_NoneType_list, kt_NoneType_tuple⟩
    | bl b => exact ⟨_, .base (.bl b), kt_bool_int, kt_bool_bool, kt_bool_list, kt_bool_tuple⟩
    | int b => exact ⟨_, .base (.int b), kt_int_int, kt_int_bool, kt_int_list, kt_int_tuple⟩
    | str b => exact ⟨_, .base (.str b), kt_str_int, kt_str_bool, kt_str_list, kt_str_tuple⟩
    | byt b => cases e
    | flt b => cases e
    | ref b => cases e
    | ty b => cases e
  | dk => obtain ⟨a, kvs, rfl, q⟩ := h; exact ⟨_, .base (.dK q), kt_dict_int, kt_dict_bool, kt_dict_list, kt_dict_tuple⟩
  | lst xs => obtain ⟨a, rfl, q⟩ := h; exact ⟨_, .base (.lst q), kt_list_int, kt_list_bool, kt_list_list, kt_list_tuple⟩
  | tup xs => obtain ⟨a, rfl, q⟩ := h; exact ⟨_, .base (.tup q), kt_tuple_int, kt_tuple_bool, kt_tuple_list, kt_tuple_tuple⟩
/-- isinstance(x, (list, tuple)) -/
theorem kit_seq {K : PySem.W.Frag} {t : String} {a b : Bool} (h1 : kitB t "list" = some a) (h2 : kitB t "tuple" = some b) : PySem.W.kitAny K (.type t) [.type "list", .type "tuple"] = some (a || b) :=
  kitAny_cons (kit_ty h1) (fun e => by subst e; exact kitAny_cons (kit_ty h2) (fun e => by subst e; exact kitAny_nil) (fun e => by subst e; rfl)) (fun e => by subst e; rfl)
def wholeB (x : V) (lo hi : Int) : Bool := match x with
  | .int i => decide (lo ≤ i) && decide (i ≤ hi)
  | _ => false

abbrev s_is_whole : Stmt := top 8
theorem sc_is_whole : FnScope ["thing", "low", "high"] ["thing", "low", "high"] (defScope s_is_whole) := ⟨rfl, rfl, rfl, by decide +kernel, rfl, by decide +kernel, by decide +kernel⟩
def spWhole : Sp := fun vs H Q _ => ∃ (x : V) (s : Sh) (lo hi : Int), vs = [x, .int lo, .int hi] ∧ Is H x s ∧ Q (.bl (wholeB x lo hi)) H
theorem if_tr {A B : Prop} {c : Bool} (e : c = true) (h : A) : if c = true then A else B := by rw [if_pos e]; exact h
theorem if_fa {A B : Prop} {c : Bool} (e : c = false) (h : B) : if c = true then A else B := by rw [if_neg (by simp [e])]; exact h
section
variable {P : Program} {w : World} {K : PySem.W.Frag} {mg : Str → Option Value} {base : Heap}
theorem ok_is_whole {f : Addr} {fd : FuncData} (F : Fun K "is_whole" "is_whole" s_is_whole f fd) (ns : mg "isinstance" = none) (ni : mg "int" = none) (nb : mg "bool" = none) : FnOk P w K mg base CX0 1 f fd ["thing", "low", "high"] spWhole := by
  refine F.ok sc_is_whole (fun vs H Q E h => ?_) (fun cdv A outer s H vs Q E hr h => ?_)
  · obtain ⟨x, s, lo, hi, rfl, _⟩ := h
    rfl
  · obtain ⟨x, sh, lo, hi, rfl, hx, k⟩ := h
    refine ⟨_, (pss_one 
  (ps_ret (pe_and (pe_callB call_isi (by rfl) ns (by decide +kernel) (pa_cons (pv 0) (pa_cons (pe_bltn (by rfl) ni (by decide +kernel) (v := .ty "int") rfl) pa_nil))) (pe_and (pe_not (pe_callB call_isi (by rfl) ns (by decide +kernel) (pa_cons (pv 0) (pa_cons (pe_bltn (by rfl) nb (by decide +kernel) (v := .ty "bool") rfl) pa_nil)))) (pe_one (pe_chain op_le op_le (pv 1) (pv 0) (pv 2))))))), ?_⟩
    obtain ⟨t, ht, k1, k2, _⟩ := hx.ty (K := K)
    refine ⟨_, rfl, _, _, _, _, _, rfl, .ty "int", ht, kit_ty k1, _, rfl, ?_⟩
    cases e1 : sh.int with
    | true =>
      obtain ⟨i, rfl⟩ : ∃ i, sh = .sc (.int i) := by
        cases sh with
        | sc v => cases v <;> first | exact ⟨_, rfl⟩ | cases e1
        | _ => cases e1
      obtain ⟨rfl, _⟩ := hx
      refine if_tr rfl ?_
      refine ⟨_, rfl, _, _, _, _, _, rfl, .ty "bool", ht, kit_ty k2, _, rfl, _, rfl, ?_⟩
      refine if_tr rfl ?_
      refine ⟨_, rfl, _, rfl, _, _, rfl, rfl, _, rfl, ?_⟩
      by_cases c : lo ≤ i
      · refine if_tr (decide_eq_true c) ⟨_, rfl, _, _, rfl, rfl, ?_⟩
        have e : wholeB (.int i) lo hi = decide (i ≤ hi) := by
          show (decide (lo ≤ i) && decide (i ≤ hi)) = _
          rw [decide_eq_true c, Bool.true_and]
        rw [e] at k
        exact k
      · refine if_fa (decide_eq_false c) ?_
        have e : wholeB (.int i) lo hi = false := by
          show (decide (lo ≤ i) && decide (i ≤ hi)) = _
          rw [decide_eq_false c, Bool.false_and]
        rw [e] at k
        exact k
    | false =>
      have e : wholeB x lo hi = false := by
        cases sh with
        | sc v =>
          obtain ⟨rfl, _⟩ := hx
          cases x <;> first | rfl | cases e1
        | dk => obtain ⟨a, _, rfl, _⟩ := hx; rfl
        | lst => obtain ⟨a, rfl, _⟩ := hx; rfl
        | tup => obtain ⟨a, rfl, _⟩ := hx; rfl
      rw [e] at k
      cases e2 : sh.bl with
      | true =>
        refine if_tr rfl ?_
        refine ⟨_, rfl, _, _, _, _, _, rfl, .ty "bool", ht, kit_ty (e2 ▸ k2), _, rfl, _, rfl, ?_⟩
        exact if_fa rfl k
      | false => exact if_fa rfl k
abbrev s_is_sequence : Stmt := top 9
theorem sc_is_sequence : FnScope ["thing"] ["thing"] (defScope s_is_sequence) := ⟨rfl, rfl, rfl, by decide +kernel, rfl, by decide +kernel, by decide +kernel⟩
def spSeq : Sp := fun vs H Q _ => ∃ (x : V) (s : Sh), vs = [x] ∧ Is H x s ∧ ∀ H', Same H H' → Q (.bl (s.isL || s.isT)) H'
theorem new_same {H : Hp} {p : Addr} {o : HO} (n : H p = none) : Same H (upd H p o) := fun b u e => by
  rw [upd_ne (ne_of_none e n)]
  exact e
/-- the test isinstance(x, (list, tuple)) -/
theorem isi_seq {K : PySem.W.Frag} {H : Hp} {x : V} {s : Sh} {Q : VK} (hx : Is H x s) (k : ∀ H', Same H H' → Q (.bl (s.isL || s.isT)) H') : 2 ≤ sizeLine ∧ ∀ p, H p = none → rIsiT K [x, .ref p] (upd H p (.tup [.ty "list", .ty "tuple"])) Q := by
  refine ⟨by decide, fun p hp => ?_⟩
  have S : Same H (upd H p (.tup [.ty "list", .ty "tuple"])) := new_same hp
  obtain ⟨t, ht, _, _, k1, k2⟩ := (hx.keep S).ty (K := K)
  exact ⟨_, _, _, _, _, _, rfl, upd_same, .cons (.ty "list") (.cons (.ty "tuple") .nil), ht, kit_seq k1 k2, k _ S⟩
theorem ok_is_sequence {f : Addr} {fd : FuncData} (F : Fun K "is_sequence" "is_sequence" s_is_sequence f fd) (ns : mg "isinstance" = none) (nl : mg "list" = none) (nt : mg "tuple" = none) : FnOk P w K mg base CX0 1 f fd ["thing"] spSeq := by
  refine F.ok sc_is_sequence (fun vs H Q E h => ?_) (fun cdv A outer s H vs Q E hr h => ?_)
  · obtain ⟨x, s, rfl, _⟩ := h
    rfl
  · obtain ⟨x, sh, rfl, hx, k⟩ := h
    refine ⟨_, (pss_one 
  (ps_ret (pe_callB call_isiT (by rfl) ns (by decide +kernel) (pa_cons (pv 0) (pa_cons (pe_tup (pa_cons (pe_bltn (by rfl) nl (by decide +kernel) (v := .ty "list") rfl) (pa_cons (pe_bltn (by rfl) nt (by decide +kernel) (v := .ty "tuple") rfl) pa_nil))) pa_nil))))), ?_⟩
    exact ⟨_, rfl, isi_seq hx k⟩
end
end J

set_option Elab.async false
set_option linter.all false
set_option maxRecDepth 100000
set_option maxHeartbeats 2000000
namespace J
open PySem PySem.Spec PyProof.Rows L2
/-! ### own errors with one field -/
def spXI (C : Addr) (f : Str) : Sp := fun vs H Q _ => ∃ (a : Addr) (v : V), vs = [.ref a, v] ∧ H a = some (exo a C none) ∧ ∀ dx, H dx = none → dx ≠ a → Q .non (upd (upd H dx (exd dx [(f, v)])) a (exo a C (some dx)))
structure Ex (P : Program) (w : World) (K : PySem.W.Frag) (mg : Str → Option Value) (base : Heap) (x fld : Str) (C fI : Addr) (fd : FuncData) (ps : List Str) : Prop where
  o : OexC K C
  i : PySem.W.findIn K (.ref C) "__init__" = some (some (.ref fI))
  t : PySem.W.typeIn K (.ref fI) = some (.type "function")
  F : FnOk P w K mg base CX0 1 fI fd ps (spXI C fld)
  b : Binds K fd ps []
  m : mg x = some (.ref C)
  xf : XfC K C
  no : PySem.W.findIn K (.ref C) fld = some none
  te : PySem.W.exmOne K (.ref C) (.ref C) = some true
/-- how an error is told: new, with its field -/
def Tells (H : Hp) (C : Addr) (f : Str) (v : V) (E : XK) : Prop := ∀ d H', H d = none → Same H H' → H' d = some (.xd [(f, v)]) → E (.ref C) (some d) H'
theorem mkO_of {C : Addr} {f : Str} {v : V} {H : Hp} {Q : XK} (h : Tells H C f v Q) : [v].length ≤ 1000 ∧ ∀ a, H a = none → spXI C f (.ref a :: ([v] ++ [])) (upd H a (exo a C none))
    (fun u H2 => u = .non ∧ ∃ (d : Addr) (fs : List (Str × V)), H2 a = some (exo a C (some d)) ∧ H2 d = some (exd d fs) ∧ H d = none ∧ Q (.ref C) (some d) (upd (del H2 a) d (.xd fs))) (fun _ _ _ => False) := by
  refine ⟨(by show 1 ≤ 1000; decide), fun a ha => ⟨a, v, rfl, upd_same, fun dx hdx ne => ⟨rfl, dx, [(f, v)], upd_same, ?_, ?_, ?_⟩⟩⟩
  · rw [upd_ne ne, upd_same]
  · rw [upd_ne ne] at hdx
    exact hdx
  · rw [upd_ne ne] at hdx
    refine h _ _ hdx (fun b o e => ?_) upd_same
    rw [upd_ne (ne_of_none e hdx), del_ne (ne_of_none e ha), upd_ne (ne_of_none e ha), upd_ne (ne_of_none e hdx), upd_ne (ne_of_none e ha)]
    exact e
abbrev s_BadTies_init : Stmt := inClass (top 3) 0
abbrev s_NoTie_init : Stmt := inClass (top 4) 0
theorem sc_BadTies_init : FnScope ["self", "what"] ["self", "what"] (defScope s_BadTies_init) := ⟨rfl, rfl, rfl, by decide +kernel, rfl, by decide +kernel, by decide +kernel⟩
theorem sc_NoTie_init : FnScope ["self", "tie"] ["self", "tie"] (defScope s_NoTie_init) := ⟨rfl, rfl, rfl, by decide +kernel, rfl, by decide +kernel, by decide +kernel⟩
section
variable {P : Program} {w : World} {K : PySem.W.Frag} {mg : Str → Option Value} {base : Heap}
theorem ok_BadTies_init {f C : Addr} {fd : FuncData} (F : Fun K "__init__" "BadTies.__init__" s_BadTies_init f fd) (o : OexC K C) (no : PySem.W.findIn K (.ref C) "what" = some none) : FnOk P w K mg base CX0 1 f fd ["self", "what"] (spXI C "what") := by
  refine F.ok sc_BadTies_init (fun vs H Q E h => ?_) (fun cdv A outer s H vs Q E hr h => ?_)
  · obtain ⟨x, s, rfl, _⟩ := h
    rfl
  · obtain ⟨a, v, rfl, ha, k⟩ := h
    refine ⟨_, pss_one (ps_ost (pv 0) (pv 1)), ?_⟩
    exact ⟨_, rfl, _, rfl, a, C, rfl, o, no, .inl ⟨ha, k⟩⟩
theorem ok_NoTie_init {f C : Addr} {fd : FuncData} (F : Fun K "__init__" "NoTie.__init__" s_NoTie_init f fd) (o : OexC K C) (no : PySem.W.findIn K (.ref C) "tie" = some none) : FnOk P w K mg base CX0 1 f fd ["self", "tie"] (spXI C "tie") := by
  refine F.ok sc_NoTie_init (fun vs H Q E h => ?_) (fun cdv A outer s H vs Q E hr h => ?_)
  · obtain ⟨x, s, rfl, _⟩ := h
    rfl
  · obtain ⟨a, v, rfl, ha, k⟩ := h
    refine ⟨_, pss_one (ps_ost (pv 0) (pv 1)), ?_⟩
    exact ⟨_, rfl, _, rfl, a, C, rfl, o, no, .inl ⟨ha, k⟩⟩
end
/-! ### Ties -/
theorem bm_ : ¬ (("backs" : Str) = "many") := by decide +kernel
theorem mb_ : ¬ (("many" : Str) = "backs") := by decide +kernel
def tf (t : Addr) (n : Int) : List (Str × V) := putF "many" (.int n) (putF "backs" (.ref t) [])
theorem tf_backs (t : Addr) (n : Int) : (tf t n).lookup ("backs" : Str) = some (.ref t) := by
  unfold tf
  rw [lookup_putF, if_neg bm_, lookup_putF, if_pos rfl]
theorem tf_many (t : Addr) (n : Int) : (tf t n).lookup ("many" : Str) = some (.int n) := by
  unfold tf
  rw [lookup_putF, if_pos rfl]
theorem tf_no (t : Addr) (n : Int) {m : Str} (h1 : ¬ m = "many") (h2 : ¬ m = "backs") : (tf t n).lookup m = none := by
  unfold tf
  rw [lookup_putF, if_neg h1, lookup_putF, if_neg h2]
  all_goals rfl
def TiesAt (C : Addr) (H : Hp) (x : Addr) (ns : List Int) : Prop := ∃ dx t, H x = some (.ins C dx (tf t (ns.length : Nat))) ∧ H t = some (.tup (ns.map V.int))
theorem TiesAt.keep {C : Addr} {H H' : Hp} {x : Addr} {ns : List Int} (h : TiesAt C H x ns) (S : Same H H') : TiesAt C H' x ns := by
  obtain ⟨dx, t, a, b⟩ := h
  exact ⟨dx, t, S _ _ a, S _ _ b⟩
/-- the class Ties in the written part -/
structure TiC (K : PySem.W.Frag) (C : Addr) : Prop where
  cl : Cls K C
  nB : NoAttr K C "backs"
  nM : NoAttr K C "many"
structure Mt (P : Program) (w : World) (K : PySem.W.Frag) (mg : Str → Option Value) (base : Heap) (CX : CXT) (k : Nat) (C : Addr) (m : Str) (f : Addr) (fd : FuncData) (ps : List Str) (sp : Sp) : Prop where
  M : Meth K C m f
  F : FnOk P w K mg base CX k f fd ps sp
  b : Binds K fd ps []
abbrev s_Ties_has : Stmt := inClass (top 10) 2
abbrev s_Ties_back : Stmt := inClass (top 10) 3
theorem sc_Ties_has : FnScope ["self", "thing"] ["self", "thing"] (defScope s_Ties_has) := ⟨rfl, rfl, rfl, by decide +kernel, rfl, by decide +kernel, by decide +kernel⟩
theorem sc_Ties_back : FnScope ["self", "tie"] ["self", "tie"] (defScope s_Ties_back) := ⟨rfl, rfl, rfl, by decide +kernel, rfl, by decide +kernel, by decide +kernel⟩
def tieB (ns : List Int) (x : V) : Bool := wholeB x 0 ((ns.length : Nat) - 1)
def spHas (C : Addr) : Sp := fun vs H Q _ => ∃ (x : Addr) (ns : List Int) (v : V) (s : Sh), vs = [.ref x, v] ∧ TiesAt C H x ns ∧ Is H v s ∧ Q (.bl (tieB ns v)) H
def spBack (C CN : Addr) : Sp := fun vs H Q E => ∃ (x : Addr) (ns : List Int) (v : V) (s : Sh), vs = [.ref x, v] ∧ TiesAt C H x ns ∧ Is H v s ∧ (∀ (i : Nat) (b : Int), v = .int (i : Nat) → ns[i]? = some b → Q (.int b) H) ∧ (tieB ns v = false → Tells H CN "tie" v E)
def spOneWay (C CN : Addr) : Sp := fun vs H Q E => ∃ (x : Addr) (ns : List Int) (v : V) (s : Sh), vs = [.ref x, v] ∧ TiesAt C H x ns ∧ Is H v s ∧ (∀ (i : Nat) (b : Int), v = .int (i : Nat) → ns[i]? = some b → Q (.bl (!decide (b = (i : Nat)))) H) ∧ (tieB ns v = false → Tells H CN "tie" v E)
theorem tieB_true {ns : List Int} {v : V} (h : tieB ns v = true) : ∃ (i : Nat) (b : Int), v = .int (i : Nat) ∧ ns[i]? = some b := by
  cases v with
  | int i =>
    have h' : (decide (0 ≤ i) && decide (i ≤ (ns.length : Nat) - 1)) = true := h
    obtain ⟨h1, h2⟩ := Bool.and_eq_true_iff.mp h'
    have h1 := of_decide_eq_true h1
    have h2 := of_decide_eq_true h2
    have hl : i.toNat < ns.length := by omega
    exact ⟨i.toNat, ns[i.toNat], by rw [Int.toNat_of_nonneg h1], List.getElem?_eq_getElem hl⟩
  | _ => cases h
section
variable {P : Program} {w : World} {K : PySem.W.Frag} {mg : Str → Option Value} {base : Heap}
theorem ok_Ties_has {f C fW : Addr} {fd fdW : FuncData} (F : Fun K "has" "Ties.has" s_Ties_has f fd) (T : TiC K C) (GW : Cal P w K mg base CX0 1 "is_whole" fW fdW ["thing", "low", "high"] spWhole) : FnOk P w K mg base CX0 2 f fd ["self", "thing"] (spHas C) := by
  refine F.ok sc_Ties_has (fun vs H Q E h => ?_) (fun cdv A outer s H vs Q E hr h => ?_)
  · obtain ⟨x, ns, v, s, rfl, _⟩ := h
    rfl
  · obtain ⟨x, ns, v, s, rfl, ⟨dx, t, hx, ht⟩, hv, k⟩ := h
    refine ⟨_, (pss_one 
  (ps_ret (pcal GW hr pass0 (pa_cons (pv 1) (pa_cons pe_int (pa_cons (pe_op op_sub (pe_fld (pv 0) rfl) pe_int) pa_nil)))))), ?_⟩
    exact ⟨_, rfl, _, rfl, x, C, dx, _, _, rfl, hx, T.cl, T.nM, tf_many _ _, _, _, rfl, rfl, v, s, _, _, rfl, hv, k⟩
theorem ok_Ties_back {f C CN fH fI : Addr} {fd fdH fdI : FuncData} (F : Fun K "back" "Ties.back" s_Ties_back f fd) (T : TiC K C) (GH : Mt P w K mg base CX0 2 C "has" fH fdH ["self", "thing"] (spHas C)) (GN : Ex P w K mg base "NoTie" "tie" CN fI fdI ["self", "tie"]) :
    FnOk P w K mg base (L2.CX P w) 3 f fd ["self", "tie"] (spBack C CN) := by
  refine F.okX sc_Ties_back (fun vs H Q E h => ?_) (fun cdv A outer s H vs Q E hr h => ?_)
  · obtain ⟨x, ns, v, s, rfl, _⟩ := h
    rfl
  · obtain ⟨x, ns, v, s, rfl, hT, hv, k1, k2⟩ := h
    obtain ⟨dx, t, hx, ht⟩ := id hT
    refine ⟨_, (pss_cons 
  (ps_if (pt_not (pt_val (pe_meth (pv 0) T.cl GH.M GH.F hr GH.b .nil pass0 (pa_cons (pv 1) pa_nil)))) (pss_one 
    (ps_raise rfl (takes_of rfl rfl rfl rfl) (pmk_oex GN.o GN.i GN.t GN.F hr GN.b .nil pass0 rfl GN.m (pa_cons (pv 1) pa_nil)))) pss_nil) (pss_one 
  (ps_ret (pe_ix ix_tup (pe_fld (pv 0) rfl) (pv 1) (fun _ _ => rfl))))), ?_⟩
    refine ⟨_, rfl, x, dx, _, rfl, hx, tf_no _ _ (by decide +kernel) (by decide +kernel), _, rfl, x, ns, v, s, rfl, hT, hv, _, rfl, ?_⟩
    cases e : tieB ns v with
    | true =>
      obtain ⟨i, b, rfl, hb⟩ := tieB_true e
      refine if_fa rfl ⟨_, rfl, x, C, dx, _, _, rfl, hx, T.cl, T.nB, tf_backs _ _, _, rfl, _, _, _, _, rfl, rfl, SqT.of ht, at_of (v := .int b) rfl ?_, k1 i b rfl hb⟩
      rw [List.getElem?_map, hb]
      rfl
    | false => exact if_tr rfl ⟨_, rfl, mkO_of (k2 e)⟩
end
end J

set_option Elab.async false
set_option linter.all false
set_option maxRecDepth 100000
set_option maxHeartbeats 4000000
namespace J
open PySem PySem.Spec PyProof.Rows L2
/-! ### which word is due -/
def backB (xs : List V) (k : Nat) : Bool := match xs[k]? with
  | some (.int n) => decide (xs[n.toNat]? = some (.int (k : Nat)))
  | _ => false
def dueS (xs : List V) : Option Str :=
  if 2 ≤ xs.length ∧ xs.length ≤ 4 then
    if ∀ x ∈ xs, wholeB x 0 ((xs.length : Nat) - 1) = true then
      if ∀ k, k < xs.length → backB xs k = true then none else some "back"
    else some "tie"
  else some "count"
def due : Sh → Option Str
  | .lst xs => dueS xs
  | .tup xs => dueS xs
  | _ => some "row"
def items : Sh → List V
  | .lst xs => xs
  | .tup xs => xs
  | _ => []
def Known (H : Hp) (xs : List V) : Prop := ∀ x ∈ xs, ∃ s, Is H x s
theorem Known.keep {H H' : Hp} {xs : List V} (h : Known H xs) (S : Same H H') : Known H' xs := fun x hx => by
  obtain ⟨s, q⟩ := h x hx
  exact ⟨s, q.keep S⟩
/-- what stands behind a due of none -/
structure GoodB (ns : List Int) : Prop where
  lo : 2 ≤ ns.length
  hi : ns.length ≤ 4
  rng : ∀ n ∈ ns, 0 ≤ n ∧ n < (ns.length : Nat)
  inv : ∀ (k : Nat) (b : Int), ns[k]? = some b → ns[b.toNat]? = some (k : Int)
theorem whole_int {x : V} {hi : Int} (h : wholeB x 0 hi = true) : ∃ n : Int, x = .int n ∧ 0 ≤ n ∧ n ≤ hi := by
  cases x with
  | int i =>
    have h' : (decide (0 ≤ i) && decide (i ≤ hi)) = true := h
    obtain ⟨h1, h2⟩ := Bool.and_eq_true_iff.mp h'
    exact ⟨i, rfl, of_decide_eq_true h1, of_decide_eq_true h2⟩
  | _ => cases h
theorem whole_of {n hi : Int} (h : 0 ≤ n) (h2 : n ≤ hi) : wholeB (.int n) 0 hi = true := by
  show (decide (0 ≤ n) && decide (n ≤ hi)) = true
  rw [decide_eq_true h, decide_eq_true h2]
  rfl
theorem all_ints {hi : Int} : ∀ {xs : List V}, (∀ x ∈ xs, wholeB x 0 hi = true) → ∃ ns : List Int, xs = ns.map V.int ∧ ∀ n ∈ ns, 0 ≤ n ∧ n ≤ hi
  | [], _ => ⟨[], rfl, fun n h => by cases h⟩
  | x :: xs, h => by
    obtain ⟨n, rfl, h1, h2⟩ := whole_int (h x List.mem_cons_self)
    obtain ⟨ns, rfl, q⟩ := all_ints (xs := xs) fun y hy => h y (List.mem_cons_of_mem _ hy)
    refine ⟨n :: ns, rfl, fun m hm => ?_⟩
    rcases List.mem_cons.mp hm with rfl | hm
    · exact ⟨h1, h2⟩
    · exact q m hm
theorem ints_at {ns : List Int} {k : Nat} {b : Int} (h : ns[k]? = some b) : (ns.map V.int)[k]? = some (V.int b) := by
  rw [List.getElem?_map, h]
  rfl
theorem backB_iff {ns : List Int} {k : Nat} {b : Int} (h : ns[k]? = some b) : backB (ns.map V.int) k = decide (ns[b.toNat]? = some (k : Int)) := by
  unfold backB
  rw [ints_at h]
  show decide ((ns.map V.int)[b.toNat]? = some (V.int (k : Nat))) = _
  rw [List.getElem?_map]
  cases e : ns[b.toNat]? with
  | none => simp
  | some c => simp
theorem good_of {xs : List V} (h : dueS xs = none) : ∃ ns : List Int, xs = ns.map V.int ∧ GoodB ns := by
  unfold dueS at h
  split at h
  · rename_i h1
    split at h
    · rename_i h2
      split at h
      · rename_i h3
        obtain ⟨ns, rfl, q⟩ := all_ints h2
        rw [List.length_map] at h1 h3 q
        refine ⟨ns, rfl, h1.1, h1.2, fun n hn => ⟨(q n hn).1, by have := (q n hn).2; omega⟩, fun k b hb => ?_⟩
        have hk := (List.getElem?_eq_some_iff.mp hb).1
        have z := h3 k hk
        rw [backB_iff hb] at z
        exact of_decide_eq_true z
      · cases h
    · cases h
  · cases h
theorem due_of {ns : List Int} (g : GoodB ns) : dueS (ns.map V.int) = none := by
  unfold dueS
  rw [List.length_map, if_pos ⟨g.lo, g.hi⟩, if_pos, if_pos]
  · intro k hk
    obtain ⟨b, hb⟩ : ∃ b, ns[k]? = some b := ⟨ns[k], List.getElem?_eq_getElem hk⟩
    rw [backB_iff hb]
    exact decide_eq_true (g.inv k b hb)
  · intro x hx
    obtain ⟨n, hn, rfl⟩ := List.mem_map.mp hx
    have := g.rng n hn
    exact whole_of this.1 (by omega)
theorem Tells.mono {H H1 : Hp} {C : Addr} {f : Str} {v : V} {E : XK} (h : Tells H C f v E) (S : Same H H1) : Tells H1 C f v E := fun d H' n S1 e => h d H' (S.free n) (S.trans S1) e
theorem fault_count {xs : List V} (h : ¬ (2 ≤ xs.length ∧ xs.length ≤ 4)) : dueS xs = some ("count" : Str) := by
  unfold dueS
  rw [if_neg h]
theorem fault_tie {xs : List V} {x : V} (h : 2 ≤ xs.length ∧ xs.length ≤ 4) (hx : x ∈ xs) (e : wholeB x 0 ((xs.length : Nat) - 1) = false) : dueS xs = some ("tie" : Str) := by
  unfold dueS
  rw [if_pos h, if_neg]
  intro q
  rw [q x hx] at e
  cases e
theorem fault_back {xs : List V} {k : Nat} (h : 2 ≤ xs.length ∧ xs.length ≤ 4) (ha : ∀ x ∈ xs, wholeB x 0 ((xs.length : Nat) - 1) = true) (hk : k < xs.length) (e : backB xs k = false) : dueS xs = some ("back" : Str) := by
  unfold dueS
  rw [if_pos h, if_pos ha, if_neg]
  intro q
  rw [q k hk] at e
  cases e
theorem fault_none {xs : List V} (h : 2 ≤ xs.length ∧ xs.length ≤ 4) (ha : ∀ x ∈ xs, wholeB x 0 ((xs.length : Nat) - 1) = true) (e : ∀ k, k < xs.length → backB xs k = true) : dueS xs = none := by
  unfold dueS
  rw [if_pos h, if_pos ha, if_pos e]
def faultV : Option Str → V
  | none => .non
  | some w => .str w
abbrev s_ties_fault : Stmt := top 11
theorem sc_ties_fault : FnScope ["backs", "many", "back", "tie"] ["backs"] (defScope s_ties_fault) := ⟨rfl, rfl, rfl, by decide +kernel, rfl, by decide +kernel, by decide +kernel⟩
def spFault : Sp := fun vs H Q _ => ∃ (v : V) (s : Sh), vs = [v] ∧ Is H v s ∧ Known H (items s) ∧ ∀ H', Same H H' → Q (faultV (due s)) H'
abbrev s_Ties_init : Stmt := inClass (top 10) 0
theorem sc_Ties_init : FnScope ["self", "backs", "what"] ["self", "backs"] (defScope s_Ties_init) := ⟨rfl, rfl, rfl, by decide +kernel, rfl, by decide +kernel, by decide +kernel⟩
def spTies (C CB : Addr) : Sp := fun vs H Q E => ∃ (x dx : Addr) (v : V) (s : Sh), vs = [.ref x, v] ∧ H x = some (.ins C dx []) ∧ Is H v s ∧ Known H (items s) ∧ (∀ w, due s = some w → Tells H CB "what" (.str w) E) ∧
  (∀ ns, due s = none → items s = ns.map V.int → ∀ H', But x H H' → TiesAt C H' x ns → Q .non H')
section
variable {P : Program} {w : World} {K : PySem.W.Frag} {mg : Str → Option Value} {base : Heap}
theorem ok_ties_fault {f fS fW : Addr} {fd fdS fdW : FuncData} (F : Fun K "ties_fault" "ties_fault" s_ties_fault f fd) (nl : mg "len" = none) (nr : mg "range" = none) (na : mg "all" = none) (mM : ∃ t, mg "MOST_TIES" = some (.int 4 t))
    (GS : Cal P w K mg base CX0 1 "is_sequence" fS fdS ["thing"] spSeq) (GW : Cal P w K mg base CX0 1 "is_whole" fW fdW ["thing", "low", "high"] spWhole) : FnOk P w K mg base CX0 2 f fd ["backs"] spFault := by
  obtain ⟨tM, mM⟩ := mM
  refine F.ok sc_ties_fault (fun vs H Q E h => ?_) (fun cdv A outer s H vs Q E hr h => ?_)
  · obtain ⟨v, s, rfl, _⟩ := h
    rfl
  · obtain ⟨v, sh, rfl, hv, kn, k⟩ := h
    cases sh with
    | sc u =>
      refine ⟨_, (pss_cons 
  (ps_if (pt_not (pt_val (pcal GS hr pass0 (pa_cons (pv 0) pa_nil)))) (pss_one 
    (ps_ret pe_str)) pss_nil) (pss_cons 
  (ps_set (i := 1) sc_ties_fault.nd rfl (Or.inr rfl) (pe_callB call_len_seq (by rfl) nl PySem.boot_len (pa_cons (pv 0) pa_nil))) (pss_cons 
  (ps_if (pt_not (pt_chain op_le op_le pe_int (pv 1) (pe_glob (v := .int 4) rfl mM ⟨_, rfl⟩))) (pss_one 
    (ps_ret pe_str)) pss_nil) (pss_cons 
  (ps_if (pt_not (pt_val (pe_callB (cr_all rfl) (by rfl) na (by decide +kernel) (pa_cons (pe_lc (own := [("back", 2)]) (g := gName 2) (by rfl) sc_ties_fault.nd (pi_list (pv 0)) (blkOk_by (own := [("back", 2)]) (N := ["backs", "many", "back", "tie"]) (sc := defScope s_ties_fault) (by decide +kernel)) (fun _ _ _ _ _ => pg_name (i := 2) sc_ties_fault.nd rfl (Or.inl rfl)) (fun _ _ _ _ _ => pts_nil) (fun _ _ _ _ _ => (pcal GW hr pass0 (pa_cons (pv 2) (pa_cons pe_int (pa_cons (pe_op op_sub (pv 1) pe_int) pa_nil)))))) pa_nil)))) (pss_one 
    (ps_ret pe_str)) pss_nil) (pss_cons 
  (ps_if (pt_not (pt_val (pe_callB (cr_all rfl) (by rfl) na (by decide +kernel) (pa_cons (pe_lc (own := [("tie", 3)]) (g := gName 3) (by rfl) sc_ties_fault.nd (pi_range1 (by rfl) nr (pa_cons (pv 1) pa_nil)) (blkOk_by (own := [("tie", 3)]) (N := ["backs", "many", "back", "tie"]) (sc := defScope s_ties_fault) (by decide +kernel)) (fun _ _ _ _ _ => pg_name (i := 3) sc_ties_fault.nd rfl (Or.inl rfl)) (fun _ _ _ _ _ => pts_nil) (fun _ _ _ _ _ => (pe_cmpR op_eq (pe_ix (r := rIxL K) ix_list (pv 0) (pe_ix (r := rIxL K) ix_list (pv 0) (pv 3) (fun _ _ => rfl)) (fun _ _ => rfl)) (pv 3) (nomark _)))) pa_nil)))) (pss_one 
    (ps_ret pe_str)) pss_nil) (pss_one 
  (ps_ret pe_non))))))), ?_⟩
      exact ⟨_, rfl, _, (.sc u), rfl, hv, fun H1 S1 => ⟨_, rfl, iteT (k _ S1)⟩⟩
    | dk =>
      refine ⟨_, (pss_cons 
  (ps_if (pt_not (pt_val (pcal GS hr pass0 (pa_cons (pv 0) pa_nil)))) (pss_one 
    (ps_ret pe_str)) pss_nil) (pss_cons 
  (ps_set (i := 1) sc_ties_fault.nd rfl (Or.inr rfl) (pe_callB call_len_seq (by rfl) nl PySem.boot_len (pa_cons (pv 0) pa_nil))) (pss_cons 
  (ps_if (pt_not (pt_chain op_le op_le pe_int (pv 1) (pe_glob (v := .int 4) rfl mM ⟨_, rfl⟩))) (pss_one 
    (ps_ret pe_str)) pss_nil) (pss_cons 
  (ps_if (pt_not (pt_val (pe_callB (cr_all rfl) (by rfl) na (by decide +kernel) (pa_cons (pe_lc (own := [("back", 2)]) (g := gName 2) (by rfl) sc_ties_fault.nd (pi_list (pv 0)) (blkOk_by (own := [("back", 2)]) (N := ["backs", "many", "back", "tie"]) (sc := defScope s_ties_fault) (by decide +kernel)) (fun _ _ _ _ _ => pg_name (i := 2) sc_ties_fault.nd rfl (Or.inl rfl)) (fun _ _ _ _ _ => pts_nil) (fun _ _ _ _ _ => (pcal GW hr pass0 (pa_cons (pv 2) (pa_cons pe_int (pa_cons (pe_op op_sub (pv 1) pe_int) pa_nil)))))) pa_nil)))) (pss_one 
    (ps_ret pe_str)) pss_nil) (pss_cons 
  (ps_if (pt_not (pt_val (pe_callB (cr_all rfl) (by rfl) na (by decide +kernel) (pa_cons (pe_lc (own := [("tie", 3)]) (g := gName 3) (by rfl) sc_ties_fault.nd (pi_range1 (by rfl) nr (pa_cons (pv 1) pa_nil)) (blkOk_by (own := [("tie", 3)]) (N := ["backs", "many", "back", "tie"]) (sc := defScope s_ties_fault) (by decide +kernel)) (fun _ _ _ _ _ => pg_name (i := 3) sc_ties_fault.nd rfl (Or.inl rfl)) (fun _ _ _ _ _ => pts_nil) (fun _ _ _ _ _ => (pe_cmpR op_eq (pe_ix (r := rIxL K) ix_list (pv 0) (pe_ix (r := rIxL K) ix_list (pv 0) (pv 3) (fun _ _ => rfl)) (fun _ _ => rfl)) (pv 3) (nomark _)))) pa_nil)))) (pss_one 
    (ps_ret pe_str)) pss_nil) (pss_one 
  (ps_ret pe_non))))))), ?_⟩
      exact ⟨_, rfl, _, .dk, rfl, hv, fun H1 S1 => ⟨_, rfl, iteT (k _ S1)⟩⟩
    | lst xs =>
      obtain ⟨p, rfl, hp⟩ := hv
      refine ⟨_, (pss_cons 
  (ps_if (pt_not (pt_val (pcal GS hr pass0 (pa_cons (pv 0) pa_nil)))) (pss_one 
    (ps_ret pe_str)) pss_nil) (pss_cons 
  (ps_set (i := 1) sc_ties_fault.nd rfl (Or.inr rfl) (pe_callB call_len_seq (by rfl) nl PySem.boot_len (pa_cons (pv 0) pa_nil))) (pss_cons 
  (ps_if (pt_not (pt_chain op_le op_le pe_int (pv 1) (pe_glob (v := .int 4) rfl mM ⟨_, rfl⟩))) (pss_one 
    (ps_ret pe_str)) pss_nil) (pss_cons 
  (ps_if (pt_not (pt_val (pe_callB (cr_all rfl) (by rfl) na (by decide +kernel) (pa_cons (pe_lc (own := [("back", 2)]) (g := gName 2) (by rfl) sc_ties_fault.nd (pi_list (pv 0)) (blkOk_by (own := [("back", 2)]) (N := ["backs", "many", "back", "tie"]) (sc := defScope s_ties_fault) (by decide +kernel)) (fun _ _ _ _ _ => pg_name (i := 2) sc_ties_fault.nd rfl (Or.inl rfl)) (fun _ _ _ _ _ => pts_nil) (fun _ _ _ _ _ => (pcal GW hr pass0 (pa_cons (pv 2) (pa_cons pe_int (pa_cons (pe_op op_sub (pv 1) pe_int) pa_nil)))))) pa_nil)))) (pss_one 
    (ps_ret pe_str)) pss_nil) (pss_cons 
  (ps_if (pt_not (pt_val (pe_callB (cr_all rfl) (by rfl) na (by decide +kernel) (pa_cons (pe_lc (own := [("tie", 3)]) (g := gName 3) (by rfl) sc_ties_fault.nd (pi_range1 (by rfl) nr (pa_cons (pv 1) pa_nil)) (blkOk_by (own := [("tie", 3)]) (N := ["backs", "many", "back", "tie"]) (sc := defScope s_ties_fault) (by decide +kernel)) (fun _ _ _ _ _ => pg_name (i := 3) sc_ties_fault.nd rfl (Or.inl rfl)) (fun _ _ _ _ _ => pts_nil) (fun _ _ _ _ _ => (pe_cmpR op_eq (pe_ix (r := rIxL K) ix_list (pv 0) (pe_ix (r := rIxL K) ix_list (pv 0) (pv 3) (fun _ _ => rfl)) (fun _ _ => rfl)) (pv 3) (nomark _)))) pa_nil)))) (pss_one 
    (ps_ret pe_str)) pss_nil) (pss_one 
  (ps_ret pe_non))))))), ?_⟩
      refine ⟨_, rfl, _, .lst xs, rfl, ⟨p, rfl, hp⟩, fun H1 S1 => ⟨_, rfl, iteF ?_⟩⟩
      have h1 := S1 _ _ hp
      have kn1 : Known H1 xs := kn.keep S1
      have say : ∀ (H2 : Hp) (o : Option Str), Same H1 H2 → dueS xs = o → Q (faultV o) H2 := fun H2 o S2 e => by
        have z := k _ (S1.trans S2)
        have e2 : due (.lst xs) = o := e
        rw [e2] at z
        exact z
      refine ⟨_, rfl, p, xs, rfl, .inl (SqL.of h1), ?_⟩
      refine ⟨_, rfl, _, _, rfl, rfl, _, rfl, ?_⟩
      by_cases c1 : (2 : Int) ≤ ((xs.length : Nat) : Int)
      case neg => exact if_fa (decide_eq_false c1) ⟨_, rfl, iteT (say _ (some "count") (Same.refl _) (fault_count (by omega)))⟩
      refine if_tr (decide_eq_true c1) ⟨_, _, rfl, rfl, _, rfl, ?_⟩
      by_cases c2 : ((xs.length : Nat) : Int) ≤ 4
      case neg =>
        rw [decide_eq_false c2]
        exact iteT (say _ (some "count") (Same.refl _) (fault_count (by omega)))
      rw [decide_eq_true c2]
      refine iteF ?_
      have c12 : 2 ≤ xs.length ∧ xs.length ≤ 4 := by omega
      refine ⟨_, rfl, p, rfl, ⟨_, SqL.of h1⟩, fun D hD => ?_⟩
      refine lc_list (K := K) (a := p) (xs := xs) (fun i H2 => Same H1 H2 ∧ H1 D = none ∧ H2 D = some (.lst ((xs.take i).map fun y => V.bl (wholeB y 0 ((xs.length : Nat) - 1))))) ⟨new_same hD, hD, upd_same⟩ (fun i H2 _ ⟨S, _⟩ => SqL.of (S _ _ h1)) ?_ ?_
      · rintro i y H2 hy ⟨S2, D0, eD⟩
        have hi := (List.getElem?_eq_some_iff.mp hy).1
        obtain ⟨sy, isy⟩ := kn1 y (List.mem_of_getElem? hy)
        refine ⟨rfl, yesT ?_⟩
        refine ⟨_, rfl, _, rfl, _, _, rfl, rfl, y, sy, _, _, rfl, isy.keep S2, _, eD, small1000 (by rw [List.length_map, List.length_take]; omega), fun b o e => ?_, D0, by rw [upd_same, List.take_add_one, hy, List.map_append]; rfl⟩
        rw [upd_ne (ne_of_none e D0)]
        exact S2 _ _ e
      rintro H2 ⟨S2, D0, eD⟩
      rw [List.take_length] at eD
      refine ⟨D, xs.map fun y => wholeB y 0 ((xs.length : Nat) - 1), rfl, SqL.of (by rw [eD, List.map_map]; rfl), _, rfl, ?_⟩
      cases ea : (xs.map fun y => wholeB y 0 ((xs.length : Nat) - 1)).all id with
      | false =>
        refine iteT (say _ (some "tie") S2 ?_)
        rw [List.all_map, List.all_eq_false] at ea
        obtain ⟨x, hx, hw⟩ := ea
        exact fault_tie c12 hx (by simpa using hw)
      | true =>
        refine iteF ?_
        rw [List.all_map, List.all_eq_true] at ea
        have hall : ∀ x ∈ xs, wholeB x 0 ((xs.length : Nat) - 1) = true := fun x hx => ea x hx
        obtain ⟨ns, hns, hr2⟩ := all_ints hall
        have hln : xs.length = ns.length := by rw [hns, List.length_map]
        refine ⟨_, rfl, (xs.length : Nat), rfl, by omega, by omega, fun E' hE => ?_⟩
        refine lc_range (lo := 0) (n := xs.length) (fun i H3 => Same H2 H3 ∧ H2 E' = none ∧ H3 E' = some (.lst ((List.range i).map fun j => V.bl (backB xs j)))) ⟨new_same hE, hE, upd_same⟩ ?_ ?_
        · rintro i H3 hi ⟨S3, E0, eE⟩
          have h3 := S3 _ _ (S2 _ _ h1)
          have hi' : i < ns.length := by omega
          have hbi : ns[i]? = some ns[i] := List.getElem?_eq_getElem hi'
          have hmem := hr2 _ (List.getElem_mem hi')
          generalize ns[i] = b at hbi hmem
          have hbl : b.toNat < ns.length := by omega
          have hci : ns[b.toNat]? = some ns[b.toNat] := List.getElem?_eq_getElem hbl
          generalize ns[b.toNat] = c at hci
          have hbk := backB_iff hbi
          rw [← hns, hci] at hbk
          have val : decide (V.int c = V.int (0 + (i : Nat))) = backB xs i := by
            rw [hbk]
            by_cases z : c = (i : Int) <;> simp [z]
          refine ⟨rfl, yesT ?_⟩
          refine ⟨_, rfl, _, rfl, _, rfl, _, _, _, _, rfl, rfl, SqL.of h3, at_of (j := i) (v := .int b) (by omega) (by rw [hns]; exact ints_at hbi), _, _, _, _, rfl, rfl, SqL.of h3, at_of (j := b.toNat) (v := .int c) (by omega) (by rw [hns]; exact ints_at hci), _, rfl, rfl, _, eE, small1000 (by rw [List.length_map, List.length_range]; omega), fun b' o e => ?_, E0, ?_⟩
          · rw [upd_ne (ne_of_none e E0)]
            exact S3 _ _ e
          · rw [upd_same, val, List.range_succ, List.map_append]
            rfl
        rintro H3 ⟨S3, E0, eE⟩
        refine ⟨E', (List.range xs.length).map (backB xs), rfl, SqL.of (by rw [eE, List.map_map]; rfl), _, rfl, ?_⟩
        cases eb : ((List.range xs.length).map (backB xs)).all id with
        | false =>
          refine iteT (say _ (some "back") (S2.trans S3) ?_)
          rw [List.all_map, List.all_eq_false] at eb
          obtain ⟨j, hj, hw⟩ := eb
          exact fault_back c12 hall (List.mem_range.mp hj) (by simpa using hw)
        | true =>
          refine iteF (say _ none (S2.trans S3) ?_)
          rw [List.all_map, List.all_eq_true] at eb
          exact fault_none c12 hall fun j hj => eb j (List.mem_range.mpr hj)
    | tup xs =>
      obtain ⟨p, rfl, hp⟩ := hv
      refine ⟨_, (pss_cons 
  (ps_if (pt_not (pt_val (pcal GS hr pass0 (pa_cons (pv 0) pa_nil)))) (pss_one 
    (ps_ret pe_str)) pss_nil) (pss_cons 
  (ps_set (i := 1) sc_ties_fault.nd rfl (Or.inr rfl) (pe_callB call_len_seq (by rfl) nl PySem.boot_len (pa_cons (pv 0) pa_nil))) (pss_cons 
  (ps_if (pt_not (pt_chain op_le op_le pe_int (pv 1) (pe_glob (v := .int 4) rfl mM ⟨_, rfl⟩))) (pss_one 
    (ps_ret pe_str)) pss_nil) (pss_cons 
  (ps_if (pt_not (pt_val (pe_callB (cr_all rfl) (by rfl) na (by decide +kernel) (pa_cons (pe_lc (own := [("back", 2)]) (g := gName 2) (by rfl) sc_ties_fault.nd (pi_tup (pv 0)) (blkOk_by (own := [("back", 2)]) (N := ["backs", "many", "back", "tie"]) (sc := defScope s_ties_fault) (by decide +kernel)) (fun _ _ _ _ _ => pg_name (i := 2) sc_ties_fault.nd rfl (Or.inl rfl)) (fun _ _ _ _ _ => pts_nil) (fun _ _ _ _ _ => (pcal GW hr pass0 (pa_cons (pv 2) (pa_cons pe_int (pa_cons (pe_op op_sub (pv 1) pe_int) pa_nil)))))) pa_nil)))) (pss_one 
    (ps_ret pe_str)) pss_nil) (pss_cons 
  (ps_if (pt_not (pt_val (pe_callB (cr_all rfl) (by rfl) na (by decide +kernel) (pa_cons (pe_lc (own := [("tie", 3)]) (g := gName 3) (by rfl) sc_ties_fault.nd (pi_range1 (by rfl) nr (pa_cons (pv 1) pa_nil)) (blkOk_by (own := [("tie", 3)]) (N := ["backs", "many", "back", "tie"]) (sc := defScope s_ties_fault) (by decide +kernel)) (fun _ _ _ _ _ => pg_name (i := 3) sc_ties_fault.nd rfl (Or.inl rfl)) (fun _ _ _ _ _ => pts_nil) (fun _ _ _ _ _ => (pe_cmpR op_eq (pe_ix (r := rIxT K) ix_tup (pv 0) (pe_ix (r := rIxT K) ix_tup (pv 0) (pv 3) (fun _ _ => rfl)) (fun _ _ => rfl)) (pv 3) (nomark _)))) pa_nil)))) (pss_one 
    (ps_ret pe_str)) pss_nil) (pss_one 
  (ps_ret pe_non))))))), ?_⟩
      refine ⟨_, rfl, _, .tup xs, rfl, ⟨p, rfl, hp⟩, fun H1 S1 => ⟨_, rfl, iteF ?_⟩⟩
      have h1 := S1 _ _ hp
      have kn1 : Known H1 xs := kn.keep S1
      have say : ∀ (H2 : Hp) (o : Option Str), Same H1 H2 → dueS xs = o → Q (faultV o) H2 := fun H2 o S2 e => by
        have z := k _ (S1.trans S2)
        have e2 : due (.tup xs) = o := e
        rw [e2] at z
        exact z
      refine ⟨_, rfl, p, xs, rfl, .inr (SqT.of h1), ?_⟩
      refine ⟨_, rfl, _, _, rfl, rfl, _, rfl, ?_⟩
      by_cases c1 : (2 : Int) ≤ ((xs.length : Nat) : Int)
      case neg => exact if_fa (decide_eq_false c1) ⟨_, rfl, iteT (say _ (some "count") (Same.refl _) (fault_count (by omega)))⟩
      refine if_tr (decide_eq_true c1) ⟨_, _, rfl, rfl, _, rfl, ?_⟩
      by_cases c2 : ((xs.length : Nat) : Int) ≤ 4
      case neg =>
        rw [decide_eq_false c2]
        exact iteT (say _ (some "count") (Same.refl _) (fault_count (by omega)))
      rw [decide_eq_true c2]
      refine iteF ?_
      have c12 : 2 ≤ xs.length ∧ xs.length ≤ 4 := by omega
      refine ⟨_, rfl, p, rfl, ⟨_, SqT.of h1⟩, fun D hD => ?_⟩
      refine lc_tup (K := K) (a := p) (xs := xs) (fun i H2 => Same H1 H2 ∧ H1 D = none ∧ H2 D = some (.lst ((xs.take i).map fun y => V.bl (wholeB y 0 ((xs.length : Nat) - 1))))) ⟨new_same hD, hD, upd_same⟩ (fun i H2 _ ⟨S, _⟩ => SqT.of (S _ _ h1)) ?_ ?_
      · rintro i y H2 hy ⟨S2, D0, eD⟩
        have hi := (List.getElem?_eq_some_iff.mp hy).1
        obtain ⟨sy, isy⟩ := kn1 y (List.mem_of_getElem? hy)
        refine ⟨rfl, yesT ?_⟩
        refine ⟨_, rfl, _, rfl, _, _, rfl, rfl, y, sy, _, _, rfl, isy.keep S2, _, eD, small1000 (by rw [List.length_map, List.length_take]; omega), fun b o e => ?_, D0, by rw [upd_same, List.take_add_one, hy, List.map_append]; rfl⟩
        rw [upd_ne (ne_of_none e D0)]
        exact S2 _ _ e
      rintro H2 ⟨S2, D0, eD⟩
      rw [List.take_length] at eD
      refine ⟨D, xs.map fun y => wholeB y 0 ((xs.length : Nat) - 1), rfl, SqL.of (by rw [eD, List.map_map]; rfl), _, rfl, ?_⟩
      cases ea : (xs.map fun y => wholeB y 0 ((xs.length : Nat) - 1)).all id with
      | false =>
        refine iteT (say _ (some "tie") S2 ?_)
        rw [List.all_map, List.all_eq_false] at ea
        obtain ⟨x, hx, hw⟩ := ea
        exact fault_tie c12 hx (by simpa using hw)
      | true =>
        refine iteF ?_
        rw [List.all_map, List.all_eq_true] at ea
        have hall : ∀ x ∈ xs, wholeB x 0 ((xs.length : Nat) - 1) = true := fun x hx => ea x hx
        obtain ⟨ns, hns, hr2⟩ := all_ints hall
        have hln : xs.length = ns.length := by rw [hns, List.length_map]
        refine ⟨_, rfl, (xs.length : Nat), rfl, by omega, by omega, fun E' hE => ?_⟩
        refine lc_range (lo := 0) (n := xs.length) (fun i H3 => Same H2 H3 ∧ H2 E' = none ∧ H3 E' = some (.lst ((List.range i).map fun j => V.bl (backB xs j)))) ⟨new_same hE, hE, upd_same⟩ ?_ ?_
        · rintro i H3 hi ⟨S3, E0, eE⟩
          have h3 := S3 _ _ (S2 _ _ h1)
          have hi' : i < ns.length := by omega
          have hbi : ns[i]? = some ns[i] := List.getElem?_eq_getElem hi'
          have hmem := hr2 _ (List.getElem_mem hi')
          generalize ns[i] = b at hbi hmem
          have hbl : b.toNat < ns.length := by omega
          have hci : ns[b.toNat]? = some ns[b.toNat] := List.getElem?_eq_getElem hbl
          generalize ns[b.toNat] = c at hci
          have hbk := backB_iff hbi
          rw [← hns, hci] at hbk
          have val : decide (V.int c = V.int (0 + (i : Nat))) = backB xs i := by
            rw [hbk]
            by_cases z : c = (i : Int) <;> simp [z]
          refine ⟨rfl, yesT ?_⟩
          refine ⟨_, rfl, _, rfl, _, rfl, _, _, _, _, rfl, rfl, SqT.of h3, at_of (j := i) (v := .int b) (by omega) (by rw [hns]; exact ints_at hbi), _, _, _, _, rfl, rfl, SqT.of h3, at_of (j := b.toNat) (v := .int c) (by omega) (by rw [hns]; exact ints_at hci), _, rfl, rfl, _, eE, small1000 (by rw [List.length_map, List.length_range]; omega), fun b' o e => ?_, E0, ?_⟩
          · rw [upd_ne (ne_of_none e E0)]
            exact S3 _ _ e
          · rw [upd_same, val, List.range_succ, List.map_append]
            rfl
        rintro H3 ⟨S3, E0, eE⟩
        refine ⟨E', (List.range xs.length).map (backB xs), rfl, SqL.of (by rw [eE, List.map_map]; rfl), _, rfl, ?_⟩
        cases eb : ((List.range xs.length).map (backB xs)).all id with
        | false =>
          refine iteT (say _ (some "back") (S2.trans S3) ?_)
          rw [List.all_map, List.all_eq_false] at eb
          obtain ⟨j, hj, hw⟩ := eb
          exact fault_back c12 hall (List.mem_range.mp hj) (by simpa using hw)
        | true =>
          refine iteF (say _ none (S2.trans S3) ?_)
          rw [List.all_map, List.all_eq_true] at eb
          exact fault_none c12 hall fun j hj => eb j (List.mem_range.mpr hj)
theorem ok_Ties_init {f C CB fC fI : Addr} {fd fdC fdI : FuncData} (F : Fun K "__init__" "Ties.__init__" s_Ties_init f fd) (T : TiC K C) (nl : mg "len" = none) (nt : mg "tuple" = none)
    (GF : Cal P w K mg base CX0 2 "ties_fault" fC fdC ["backs"] spFault) (GB : Ex P w K mg base "BadTies" "what" CB fI fdI ["self", "what"]) : FnOk P w K mg base (L2.CX P w) 4 f fd ["self", "backs"] (spTies C CB) := by
  refine F.okX sc_Ties_init (fun vs H Q E h => ?_) (fun cdv A outer s H vs Q E hr h => ?_)
  · obtain ⟨x, dx, v, s, rfl, _⟩ := h
    rfl
  · obtain ⟨x, dx, v, sh, rfl, hx, hv, kn, k1, k2⟩ := h
    refine ⟨_, (pss_cons 
  (ps_set (i := 2) sc_Ties_init.nd rfl (Or.inl rfl) (pcal GF hr pass0 (pa_cons (pv 1) pa_nil))) (pss_cons 
  (ps_if (pt_cmpR op_notN (pv 2) pe_non (nomark _)) (pss_one 
    (ps_raise rfl (takes_of rfl rfl rfl rfl) (pmk_oex GB.o GB.i GB.t GB.F (hr.mono (by decide)) GB.b .nil pass0 rfl GB.m (pa_cons (pv 2) pa_nil)))) pss_nil) (pss_cons 
  (ps_fld (pv 0) (pe_callTy (T := "tuple") (r := fun xs H Q => ∃ p ys, xs = [.ref p] ∧ ((SqL K H p ys ∧ ∀ l, H l = none → Q (.ref l) (upd H l (.tup ys))) ∨ (SqT K H p ys ∧ Q (.ref p) H))) call_tuple_of (by rfl) nt (by decide +kernel) (pa_cons (pv 1) pa_nil)) rfl) (pss_one 
  (ps_fld (pv 0) (pe_callB call_len_seq (by rfl) nl PySem.boot_len (pa_cons (pe_fld (pv 0) rfl) pa_nil)) rfl))))), ?_⟩
    refine ⟨_, rfl, v, sh, rfl, hv, kn, fun H1 S1 => ?_⟩
    have k1' := k1
    cases hd : due sh with
    | some u =>
      refine ⟨_, rfl, rfl, _, rfl, if_tr (by simp [faultV]) ⟨_, rfl, mkO_of ((k1 u hd).mono S1)⟩⟩
    | none =>
      refine ⟨_, rfl, rfl, _, rfl, if_fa (by simp [faultV]) ?_⟩
      have hx1 := S1 _ _ hx
      cases sh with
      | sc u => cases hd
      | dk => cases hd
      | lst xs =>
        obtain ⟨p, rfl, hp⟩ := hv
        obtain ⟨ns, e, g⟩ := good_of hd
        subst e
        have npx : p ≠ x := ne_of hp hx (by intro z; cases z)
        have h1 := S1 _ _ hp
        refine ⟨_, rfl, p, _, rfl, .inl ⟨SqL.of h1, fun t ht => ?_⟩⟩
        have ntx : t ≠ x := (ne_of_none hx1 ht).symm
        refine ⟨_, rfl, x, C, dx, [], rfl, (by rw [upd_ne ntx.symm]; exact hx1), T.cl, T.nB, (by show 0 < 1000; decide), ?_⟩
        refine ⟨_, rfl, x, C, dx, _, _, rfl, upd_same, T.cl, T.nB, (by rw [lookup_putF, if_pos rfl]), t, _, rfl, .inr (SqT.of (by rw [upd_ne ntx, upd_same])), ?_⟩
        refine ⟨_, rfl, x, C, dx, _, rfl, upd_same, T.cl, T.nM, (by show 1 < 1000; decide), ?_⟩
        refine k2 ns hd rfl _ (fun b o nb eb => ?_) ⟨dx, t, by rw [upd_same, List.length_map]; rfl, by rw [upd_ne ntx, upd_ne ntx, upd_same]⟩
        have e1 := S1 _ _ eb
        rw [upd_ne nb, upd_ne nb, upd_ne (ne_of_none e1 ht)]
        exact e1
      | tup xs =>
        obtain ⟨p, rfl, hp⟩ := hv
        obtain ⟨ns, e, g⟩ := good_of hd
        subst e
        have npx : p ≠ x := ne_of hp hx (by intro z; cases z)
        have h1 := S1 _ _ hp
        refine ⟨_, rfl, p, _, rfl, .inr ⟨SqT.of h1, ?_⟩⟩
        refine ⟨_, rfl, x, C, dx, [], rfl, hx1, T.cl, T.nB, (by show 0 < 1000; decide), ?_⟩
        refine ⟨_, rfl, x, C, dx, _, _, rfl, upd_same, T.cl, T.nB, (by rw [lookup_putF, if_pos rfl]), p, _, rfl, .inr (SqT.of (by rw [upd_ne npx]; exact h1)), ?_⟩
        refine ⟨_, rfl, x, C, dx, _, rfl, upd_same, T.cl, T.nM, (by show 1 < 1000; decide), ?_⟩
        refine k2 ns hd rfl _ (fun b o nb eb => ?_) ⟨dx, p, by rw [upd_same, List.length_map]; rfl, by rw [upd_ne npx, upd_ne npx]; exact h1⟩
        rw [upd_ne nb, upd_ne nb]
        exact S1 _ _ eb
end
end J

set_option Elab.async false
set_option linter.all false
set_option maxRecDepth 100000
set_option maxHeartbeats 4000000
namespace J
open PySem PySem.Spec PyProof.Rows L2
def wordV : Option Str → V
  | none => .non
  | some w => .str w
def spDueX : Sp := fun vs H Q E => ∃ (v : V) (s : Sh), vs = [v] ∧ Is H v s ∧ Known H (items s) ∧ ∀ H', Same H H' → Q (wordV (due s)) H'
theorem dueS_count {xs : List V} (h : ¬ (2 ≤ xs.length ∧ xs.length ≤ 4)) : dueS xs = some ("count" : Str) := by
  unfold dueS
  rw [if_neg h]
theorem dueS_tie {xs : List V} {x : V} (h : 2 ≤ xs.length ∧ xs.length ≤ 4) (hx : x ∈ xs) (e : wholeB x 0 ((xs.length : Nat) - 1) = false) : dueS xs = some ("tie" : Str) := by
  unfold dueS
  rw [if_pos h, if_neg]
  intro q
  rw [q x hx] at e
  cases e
theorem dueS_back {xs : List V} {k : Nat} (h : 2 ≤ xs.length ∧ xs.length ≤ 4) (ha : ∀ x ∈ xs, wholeB x 0 ((xs.length : Nat) - 1) = true) (hk : k < xs.length) (e : backB xs k = false) : dueS xs = some ("back" : Str) := by
  unfold dueS
  rw [if_pos h, if_pos ha, if_neg]
  intro q
  rw [q k hk] at e
  cases e
theorem dueS_none {xs : List V} (h : 2 ≤ xs.length ∧ xs.length ≤ 4) (ha : ∀ x ∈ xs, wholeB x 0 ((xs.length : Nat) - 1) = true) (e : ∀ k, k < xs.length → backB xs k = true) : dueS xs = none := by
  unfold dueS
  rw [if_pos h, if_pos ha, if_pos e]
theorem whole_lo {n lo hi : Int} (h : ¬ lo ≤ n) : wholeB (.int n) lo hi = false := by
  show (decide (lo ≤ n) && decide (n ≤ hi)) = false
  rw [decide_eq_false h]
  rfl
theorem whole_hi {n lo hi : Int} (h : ¬ n ≤ hi) : wholeB (.int n) lo hi = false := by
  show (decide (lo ≤ n) && decide (n ≤ hi)) = false
  rw [decide_eq_false h, Bool.and_false]
theorem is_new {K : PySem.W.Frag} {H : Hp} {x : V} {s : Sh} {p : Addr} (hx : Is H x s) (hp : H p = none) : ∃ t : String, TyX K (upd H p (.tup [.ty "list", .ty "tuple"])) x (.type t) ∧ PySem.W.kitAny K (.type t) [.type "list", .type "tuple"] = some (s.isL || s.isT) := by
  obtain ⟨t, ht, _, _, k1, k2⟩ := (hx.keep (new_same hp)).ty (K := K)
  exact ⟨t, ht, kit_seq k1 k2⟩
theorem isi_seq2 {K : PySem.W.Frag} {H : Hp} {x : V} {s : Sh} {Q : VK} {p : Addr} (hx : Is H x s) (hp : H p = none) (k : ∀ H', Same H H' → Q (.bl (s.isL || s.isT)) H') : rIsiT K [x, .ref p] (upd H p (.tup [.ty "list", .ty "tuple"])) Q := (isi_seq hx k).2 p hp
section
variable {P : Program} {w : World} {K : PySem.W.Frag} {mg : Str → Option Value} {base : Heap}
end
end J

set_option Elab.async false
set_option linter.all false
set_option maxRecDepth 100000
set_option maxHeartbeats 4000000
namespace J
open PySem PySem.Spec PyProof.Rows L2
/-! ### calls that may raise, within a try -/
section
variable {X : Cx} {CX : CXT} {k : Nat} {f C : Addr} {fd : FuncData} {ps : List Str} {sp : Sp} {E : L2.St → XK} {x m : Str} {p pos apos : Pos} {e o : Expr} {es : List Expr} {ta : TE} {t : TA}
def tMethS (m : Str) (sp : Sp) (C : Addr) (E : L2.St → XK) (ta : TE) (t : TA) : TE := fun σ H Q => ta σ H fun x H1 => ∃ a dx fs, x = .ref a ∧ H1 a = some (.ins C dx fs) ∧ fs.lookup m = none ∧ t σ H1 fun vs H2 => sp (.ref a :: vs) H2 Q (E σ)
theorem pmetS {pl : Sem Bool} (he : PE X o ta) (c : Cls X.K C) (hm : Meth X.K C m f) (F : FnOk X.prog X.w X.K X.mg X.base CX k f fd ps sp) (hr : Room k X.A) (hb : Binds X.K fd ps [])
    (hx : ∀ σ, PassesAt CX X σ (E σ)) (ha : PA X (e :: es) t)
    (hst : starEach (e :: es) X.env = (false, eval e X.env) :: starEach es X.env := by rfl)
    (hpl : (backTo pos (starEach es X.env)).any (·.1) = false := by rfl)
    (ht : eval (.Call (.Attribute o m apos) (e :: es) [] pos) X.env = (do let ov ← eval o X.env; standAt apos.atName; let (f, first) ← holding [ov] (getMethod ov m pl); callWith pos f first (backTo pos (starEach (e :: es) X.env)) (backToKw pos (keywordEach [] X.env))) := by rfl) :
    PE X (.Call (.Attribute o m apos) (e :: es) [] pos) (tMethS m sp C E ta t) := by
  constructor
  intro pins s σ H Q I h
  refine PySem.W.methodCall_KW (pl := pl) (thn (he.run pins s σ H _ I h) ?_) ht
  rintro u s1 ⟨x, H1, I1, rx, a, dx, fs, ex, ea, l, q⟩
  subst ex
  obtain rfl : u = Value.ref a := rx
  apply getmeth_ok I1 ea c hm l
  refine PySem.W.callWith_K (first := [.ref a]) (h₀ := X.base) I.ok.mod.kin hm.kp (thn (ha.run pos pins s1 σ H1 _ I1 q) ?_) hst hpl
  rintro us s2 ⟨vs, H2, I2, r, q2⟩
  refine ⟨I2.kIn, ?_⟩
  exact run_fnS (us := .ref a :: us) (vs := .ref a :: vs) F hr hb (hx σ) I2 (.cons rfl r) q2
def tMakeS (C : Addr) (sp : Sp) (E : L2.St → XK) (t : TA) : TE := fun σ H Q => t σ H fun vs H1 => ∀ x dx, H1 x = none → H1 dx = none → dx ≠ x → sp (.ref x :: vs) (upd (upd H1 dx (.own x)) x (.ins C dx [])) (fun v H2 => v = .non ∧ Q (.ref x) H2) (E σ)
theorem pmakS (M : Mk X.K C f) (F : FnOk X.prog X.w X.K X.mg X.base CX k f fd ps sp) (hr : Room (k + 1) X.A) (hg : Gl X x) (hm : X.mg x = some (.ref C)) (hb : Binds X.K fd ps []) (hx : ∀ σ, PassesAt CX X σ (E σ))
    (ha : PA X (e :: es) t) (hdb : (x == ("__debug__" : Str)) = false := by decide)
    (he : starEach (e :: es) X.env = (false, eval e X.env) :: starEach es X.env := by rfl)
    (hpl : (backTo pos (starEach es X.env)).any (·.1) = false := by rfl) :
    PE X (.Call (.Name x p) (e :: es) [] pos) (tMakeS C sp E t) := by
  constructor
  intro pins s σ H Q I h
  refine wpAny_Call_Name_kw (ld_glob I hg hm ?_ hdb)
  refine PySem.W.callWith_K (h₀ := X.base) I.ok.mod.kin M.kp (thn (ha.run pos pins s σ H _ I h) ?_) he hpl
  rintro us s1 ⟨vs, H1, I1, r, q⟩
  refine ⟨I1.kIn, ?_⟩
  have hq := q (s1.heap.objs.size + 1) s1.heap.objs.size (I1.hok.fresh (Nat.le_succ _)) (I1.hok.fresh (Nat.le_refl _)) (Nat.ne_of_lt (Nat.lt_succ_self _))
  have I2 := Inv.made (C := C) I1
  have r2 : Vals (V.ref (s1.heap.objs.size + 1) :: vs) (Value.ref (s1.heap.objs.size + 1) :: us) := .cons rfl r
  have hl : (Value.ref (s1.heap.objs.size + 1) :: us).length = ps.length := by
    rw [← r2.length]
    exact F.len _ _ _ _ hq
  have bd := hb _ (Value.ref (s1.heap.objs.size + 1) :: us) I2.kIn (by rw [List.append_nil]; exact hl)
  rw [List.append_nil] at bd
  have run := F.run _ X.stack _ _ ⟨Value.ref (s1.heap.objs.size + 1) :: us, []⟩ (Value.ref (s1.heap.objs.size + 1) :: us) _ _ (E σ) (hr.make C us []) (I2.env0.make C us []) bd r2 hq
  refine wpAny_call (make_map (f := f) I1.kIn M.makes M.init (beq_iff_eq.mp M.fn) (codeAny_mono run ?_))
  intro r s' hq'
  rcases r with er | fl
  · exact hx σ pins _ _ er s' I2 hq'
  · cases fl with
    | ret u =>
      obtain ⟨v, H', I3, rv, ev, q3⟩ := I2.after hq'
      subst ev
      exact ⟨rv, V.ref (s1.heap.objs.size + 1), H', I3, rfl, q3⟩
    | next => exact hq'.elim
    | brk => exact hq'.elim
    | cont => exact hq'.elim
end
/-! ### == by the text's own __eq__ -/
def rEqOwn (C : Addr) (sp : Sp) (E : XK) : R2 := fun x y H Q => ∃ a b dx fs, x = .ref a ∧ y = .ref b ∧ H a = some (.ins C dx fs) ∧ ((∃ dy gs, H b = some (.ins C dy gs)) ∨ ∃ ys, H b = some (.tup ys)) ∧ sp [x, y] H (fun v H' => (∃ c, v = .bl c) ∧ Q v H') E
theorem op_eqOwn {X : Cx} {CX : CXT} {n : Nat} {C f : Addr} {fd : FuncData} {ps : List Str} {sp : Sp} {E : XK} (F : FnOk X.prog X.w X.K X.mg X.base CX n f fd ps sp)
    (hs : PySem.W.findIn X.K (.ref C) "__eq__" = some (some (.ref f))) (hf : PySem.W.isFn X.K (.ref f) = true) (hb : Binds X.K fd ps []) (hx : Passes CX X E) (hr : Room n X.A)
    (hn : PySem.W.notFirst X.K C (.type "tuple") = true) : OpR X (compareOp .Eq) (rEqOwn C sp E) := by
  intro pins s σ H x y v u Q I rx ry ⟨a, b, dx, fs, ex, ey, ha, hy, q⟩
  subst ex
  subst ey
  obtain rfl : v = Value.ref a := rx
  obtain rfl : u = Value.ref b := ry
  show wpAny (model X.prog X.w) X.A (richCompare .Eq (.ref a) (.ref b)) (EP X pins σ Q) X.xe s
  obtain ⟨mA, J, _⟩ := ins_get I.hok ha
  obtain ⟨od, J, _⟩ := J.look
  obtain ⟨m, hF⟩ := I.fr
  have r2 : Vals [V.ref a, V.ref b] [Value.ref a, Value.ref b] := .cons rfl (.cons rfl .nil)
  have fin : wpAny (model X.prog X.w) X.A (call (.ref f) [.ref a, .ref b]) (PySem.W.CmpBack (EP X pins σ Q)) X.xe s := by
    refine wpAny_mono (run_fn (dvs := []) (ds := []) (us := [.ref a, .ref b]) (vs := [.ref a, .ref b]) F hr hb .nil hx I r2 q) ?_ fun _ _ z => z
    rintro w s' ⟨z, H', I', rz, ⟨c, rfl⟩, qz⟩
    obtain rfl : w = Value.bool c := rz
    exact ⟨V.bl c, H', I', rfl, qz⟩
  rcases hy with ⟨dy, gs, hb'⟩ | ⟨ys, hb'⟩
  · obtain ⟨mB, J', _⟩ := ins_get I.hok hb'
    obtain ⟨od', J', _⟩ := J'.look
    exact PySem.W.cmp_K (op := .Eq) (tb := .ref C) hr.units0 hF I.ok.mod.kin J J'.type (by simp [PySem.W.notFirst]) hs hf fin
  · obtain ⟨its, rv, ⟨o, h1, h2, _⟩, _⟩ := I.tuple (SqT.of hb')
    have LT : PySem.W.Looks (model X.prog X.w) s.heap (typeOf (.ref b)) (.type "tuple") := fun A Q E s k q => wpAny_typeOf_ref (k _ _ h1) (by rw [h2]; exact q)
    exact PySem.W.cmp_K (op := .Eq) (tb := .type "tuple") hr.units0 hF I.ok.mod.kin J LT hn hs hf fin
/-! ### == of data -/
theorem eqv_ints : ∀ ns ms : List Int, PyData.eqvAll (ns.map PyData.int) (ms.map PyData.int) = decide (ns = ms)
  | [], [] => by simp [PyData.eqvAll]
  | [], m :: ms => by simp [PyData.eqvAll]
  | n :: ns, [] => by simp [PyData.eqvAll]
  | n :: ns, m :: ms => by
    have ih := eqv_ints ns ms
    simp only [List.map_cons, PyData.eqvAll, PyData.eqv, ih]
    by_cases h : n = m
    · by_cases h2 : ns = ms
      · simp [h, h2]
      · simp [h, h2]
    · simp [h]
theorem dp_ints {K : PySem.W.Frag} {H : Hp} : ∀ ns : List Int, DpAll K H (ns.map V.int) (ns.map PyData.int)
  | [] => .nil
  | n :: ns => .cons (.int n) (dp_ints ns)
theorem ints_lay : ∀ ns : List Int, PyData.canLayAll0 (ns.map PyData.int) = true
  | [] => by simp [PyData.canLayAll0]
  | n :: ns => by
    have ih := ints_lay ns
    simp only [List.map_cons, PyData.canLayAll0, ih, PyData.canLay0, Bool.and_self]
theorem ints_depth : ∀ ns : List Int, PyData.depthAll (ns.map PyData.int) ≤ 1
  | [] => by simp [PyData.depthAll]
  | n :: ns => by
    have ih := ints_depth ns
    simp only [List.map_cons, PyData.depthAll, PyData.depth]
    omega
theorem shaped_li (ns : List Int) : SeqAt.shaped (.list (ns.map PyData.int)) = true := by
  have h := ints_depth ns
  show (PyData.canLay0 (.list (ns.map PyData.int)) && decide (PyData.depth (.list (ns.map PyData.int)) ≤ 64)) = true
  rw [Bool.and_eq_true]
  refine ⟨by simp only [PyData.canLay0]; exact ints_lay ns, decide_eq_true ?_⟩
  simp only [PyData.depth]
  omega
theorem shaped_ti (ns : List Int) : SeqAt.shaped (.tuple (ns.map PyData.int)) = true := by
  have h := ints_depth ns
  show (PyData.canLay0 (.tuple (ns.map PyData.int)) && decide (PyData.depth (.tuple (ns.map PyData.int)) ≤ 64)) = true
  rw [Bool.and_eq_true]
  refine ⟨by simp only [PyData.canLay0]; exact ints_lay ns, decide_eq_true ?_⟩
  simp only [PyData.depth]
  omega
theorem eqv_li (ns ms : List Int) : PyData.eqv (.list (ns.map PyData.int)) (.list (ms.map PyData.int)) = decide (ns = ms) := by
  simp only [PyData.eqv]
  exact eqv_ints ns ms
theorem eqv_ti (ns ms : List Int) : PyData.eqv (.tuple (ns.map PyData.int)) (.tuple (ms.map PyData.int)) = decide (ns = ms) := by
  simp only [PyData.eqv]
  exact eqv_ints ns ms
end J

set_option Elab.async false
set_option linter.all false
set_option maxRecDepth 100000
set_option maxHeartbeats 4000000
namespace J
open PySem PySem.Spec PyProof.Rows L2
/-! ### backs that are drawn: the mathematics -/
structure BI (m : Nat) (ns ls : List Int) : Prop where
  len : ns.length = m
  rng : ∀ n ∈ ns, 0 ≤ n ∧ n < (m : Nat)
  inv : ∀ (k : Nat) (b : Int), ns[k]? = some b → ns[b.toNat]? = some (k : Int)
  nd : ls.Nodup
  fx : ∀ z ∈ ls, 0 ≤ z ∧ z < (m : Nat) ∧ ns[z.toNat]? = some z
theorem map_erase {α β : Type} (f : α → β) : ∀ (l : List α) (k : Nat), (l.map f).eraseIdx k = (l.eraseIdx k).map f
  | [], _ => rfl
  | a :: l, 0 => rfl
  | a :: l, k + 1 => by
    show f a :: (l.map f).eraseIdx k = f a :: (l.eraseIdx k).map f
    rw [map_erase f l k]
theorem erase_mem {l : List Int} (nd : l.Nodup) {i : Nat} {a z : Int} (ha : l[i]? = some a) (hz : z ∈ l.eraseIdx i) : z ∈ l ∧ z ≠ a := by
  obtain ⟨j, hj, e⟩ := List.mem_eraseIdx_iff_getElem?.mp hz
  refine ⟨List.mem_of_getElem? e, fun q => hj ?_⟩
  subst q
  exact nd_ix nd e ha
theorem BI.step {m : Nat} {ns ls : List Int} (B : BI m ns ls) {i j : Nat} {a b : Int} (ha : ls[i]? = some a) (hb : (ls.eraseIdx i)[j]? = some b) : BI m ((ns.set a.toNat b).set b.toNat a) ((ls.eraseIdx i).eraseIdx j) := by
  have nd1 : (ls.eraseIdx i).Nodup := B.nd.sublist (List.eraseIdx_sublist ls i)
  obtain ⟨mb, nab⟩ := erase_mem B.nd ha (List.mem_of_getElem? hb)
  have ma := List.mem_of_getElem? ha
  obtain ⟨a0, a1, af⟩ := B.fx a ma
  obtain ⟨b0, b1, bf⟩ := B.fx b mb
  have nt : b.toNat ≠ a.toNat := by omega
  have la : a.toNat < ns.length := by rw [B.len]; omega
  have lb : b.toNat < ns.length := by rw [B.len]; omega
  have get : ∀ k : Nat, ((ns.set a.toNat b).set b.toNat a)[k]? = if b.toNat = k then some a else if a.toNat = k then some b else ns[k]? := fun k => by
    rw [List.getElem?_set]
    split
    · rw [List.length_set, if_pos (by omega)]
    · rw [List.getElem?_set]
      split
      · first
          | rfl
          | rw [if_pos (by omega)]
      · rfl
  refine ⟨by rw [List.length_set, List.length_set]; exact B.len, fun n hn => ?_, fun k c hc => ?_, nd1.sublist (List.eraseIdx_sublist _ j), fun z hz => ?_⟩
  · rcases List.mem_or_eq_of_mem_set hn with hn | rfl
    · rcases List.mem_or_eq_of_mem_set hn with hn | rfl
      · exact B.rng n hn
      · exact ⟨b0, b1⟩
    · exact ⟨a0, a1⟩
  · rw [get] at hc
    split at hc
    · rename_i e
      obtain rfl := Option.some.inj hc
      rw [get, if_neg nt, if_pos rfl]
      congr 1
      omega
    · rename_i e1
      split at hc
      · rename_i e2
        obtain rfl := Option.some.inj hc
        rw [get, if_pos rfl]
        congr 1
        omega
      · rename_i e2
        have q := B.inv k c hc
        rw [get, if_neg, if_neg]
        · exact q
        · intro e
          rw [← e, af] at q
          have := Option.some.inj q
          omega
        · intro e
          rw [← e, bf] at q
          have := Option.some.inj q
          omega
  · obtain ⟨z1, zb⟩ := erase_mem nd1 hb hz
    obtain ⟨z2, za⟩ := erase_mem B.nd ha z1
    obtain ⟨c0, c1, cf⟩ := B.fx z z2
    refine ⟨c0, c1, ?_⟩
    rw [get, if_neg (by omega), if_neg (by omega)]
    exact cf
def idI (m : Nat) : List Int := (List.range m).map fun i => ((i : Nat) : Int)
theorem idI_at {m k : Nat} {b : Int} (h : (idI m)[k]? = some b) : b = k ∧ k < m := by
  unfold idI at h
  rw [List.getElem?_map] at h
  have hk : k < m := by
    have q := (List.getElem?_eq_some_iff.mp (by rw [← List.getElem?_map] at h; exact h)).1
    simpa using q
  rw [List.getElem?_range hk] at h
  exact ⟨(Option.some.inj h).symm, hk⟩
theorem idI_get {m k : Nat} (h : k < m) : (idI m)[k]? = some (k : Int) := by
  unfold idI
  rw [List.getElem?_map, List.getElem?_range h]
  rfl
theorem BI.start (m : Nat) : BI m (idI m) (idI m) := by
  have mem : ∀ n ∈ idI m, 0 ≤ n ∧ n < (m : Nat) := fun n hn => by
    obtain ⟨k, hk⟩ := List.getElem?_of_mem hn
    obtain ⟨rfl, h⟩ := idI_at hk
    omega
  refine ⟨by simp [idI], mem, fun k b hb => ?_, ?_, fun z hz => ?_⟩
  · obtain ⟨rfl, h⟩ := idI_at hb
    exact idI_get (by omega)
  · unfold idI
    exact List.Pairwise.map _ (fun a b (h : a ≠ b) => by omega) List.nodup_range
  · obtain ⟨h1, h2⟩ := mem z hz
    refine ⟨h1, h2, ?_⟩
    rw [idI_get (by omega)]
    congr 1
    omega
theorem rgV_id {m : Int} (h : 0 ≤ m) : rgV 0 m = (idI m.toNat).map V.int := by
  unfold rgV idI
  rw [List.map_map, show m - 0 = m by omega]
  refine List.map_congr_left fun i _ => ?_
  show V.int (0 + (i : Int)) = V.int (i : Int)
  rw [Int.zero_add]
theorem seq_at {i : Int} {n : Nat} (h0 : 0 ≤ i) (h : i < (n : Nat)) : seqIndex? i n = some i.toNat := by
  have h1 : ixN n i = some i.toNat := by
    unfold ixN
    rw [if_pos h0, if_pos h]
  exact (ixN_seq h1).1
theorem ixN_at {i : Int} {n : Nat} (h0 : 0 ≤ i) (h : i < (n : Nat)) : ixN n i = some i.toNat := by
  unfold ixN
  rw [if_pos h0, if_pos h]
abbrev s_Lbacks : Stmt := top 23
theorem sc_Lbacks : FnScope ["_law_hand_here", "_law_many", "_law_backs_here", "_law_left", "_law_k", "_law_one", "_law_other"] ["_law_hand_here", "_law_many"] (defScope s_Lbacks) := ⟨rfl, rfl, rfl, by decide +kernel, rfl, by decide +kernel, by decide +kernel⟩
def spBacks : Sp := fun vs H Q _ => ∃ (h q : Addr) (m : Int), vs = [.ref h, .int m] ∧ 2 ≤ m ∧ m ≤ 4 ∧ Hand H h q ∧ ∀ (ns : List Int) (p : Addr) (H' : Hp), (ns.length : Nat) = m → GoodB ns → But h H H' → H p = none → H' p = some (.lst (ns.map V.int)) → Hand H' h q → Q (.ref p) H'
theorem Hand.h_ne {H : Hp} {h q p : Addr} (x : Hand H h q) (n : H p = none) : h ≠ p ∧ q ≠ p := by
  obtain ⟨cs, i, r, t, e1, e2, _⟩ := x
  exact ⟨ne_of_none e1 n, ne_of_none e2 n⟩
theorem But.put2 {h p : Addr} {H H' : Hp} {o : HO} (B : But h H H') (n : H p = none) : But h H (upd H' p o) := fun b u nb e => by
  rw [upd_ne (ne_of_none e n)]
  exact B b u nb e
section
variable {P : Program} {w : World} {K : PySem.W.Frag} {mg : Str → Option Value} {base : Heap}
theorem ok_Lbacks {f fD : Addr} {fd fdD : FuncData} (F : Fun K "_law_backs" "_law_backs" s_Lbacks f fd) (nli : mg "list" = none) (nl : mg "len" = none) (nr : mg "range" = none)
    (GD : Cal P w K mg base CX0 2 "_law_draw" fD fdD ["_law_hand_here", "_law_many"] spDraw) : FnOk P w K mg base CX0 3 f fd ["_law_hand_here", "_law_many"] spBacks := by
  refine F.ok sc_Lbacks (fun vs H Q E h => ?_) (fun cdv A outer s H vs Q E hr h => ?_)
  · obtain ⟨h, q, m, rfl, _⟩ := h
    rfl
  · obtain ⟨h, q, m, rfl, m2, m4, hh, k⟩ := h
    refine ⟨_, (pss_cons 
  (ps_set (i := 2) sc_Lbacks.nd rfl (Or.inl rfl) (pe_listRg rfl (by rfl) nli (prg_1 (by rfl) nr (pv 1)))) (pss_cons 
  (ps_set (i := 3) sc_Lbacks.nd rfl (Or.inl rfl) (pe_listRg rfl (by rfl) nli (prg_1 (by rfl) nr (pv 1)))) (pss_cons 
  (ps_for PassesOwn.never rfl (pi_range1 (by rfl) nr (pa_cons (pe_op op_fdiv (pv 1) pe_int) pa_nil)) (pg_name (i := 4) sc_Lbacks.nd rfl (Or.inl rfl)) (pss_one 
    (ps_if (pt_cmpR op_eq (pcal GD hr pass0 (pa_cons (pv 0) (pa_cons pe_int pa_nil))) pe_int (nomark _)) (pss_cons 
      (ps_set (i := 5) sc_Lbacks.nd rfl (Or.inl rfl) (pe_bm PySem.F.plainAttrs_list PySem.F.slot_list_pop PySem.F.type_list_pop mt_popAt (pv 3) (pa_cons (pcal GD hr pass0 (pa_cons (pv 0) (pa_cons (pe_callB call_len_seq (by rfl) nl PySem.boot_len (pa_cons (pv 3) pa_nil)) pa_nil))) pa_nil))) (pss_cons 
      (ps_set (i := 6) sc_Lbacks.nd rfl (Or.inl rfl) (pe_bm PySem.F.plainAttrs_list PySem.F.slot_list_pop PySem.F.type_list_pop mt_popAt (pv 3) (pa_cons (pcal GD hr pass0 (pa_cons (pv 0) (pa_cons (pe_callB call_len_seq (by rfl) nl PySem.boot_len (pa_cons (pv 3) pa_nil)) pa_nil))) pa_nil))) (pss_cons 
      (ps_asg (pv 6) (pg_sub (pv 2) (pv 5) set_list)) (pss_one 
      (ps_asg (pv 5) (pg_sub (pv 2) (pv 6) set_list)))))) pss_nil))) (pss_one 
  (ps_ret (pv 2)))))), ?_⟩
    have rg : RgOk 0 m := RgOk.of_le (by omega) (by omega) (by omega) (by omega)
    refine ⟨_, rfl, m, rfl, rg, fun p hp => ?_⟩
    refine ⟨_, rfl, m, rfl, rg, fun l hl => ?_⟩
    rw [rgV_id (by omega)]
    rw [rgV_id (by omega)] at hl
    have npl : p ≠ l := ne_of_none upd_same hl
    have hl0 : H l = none := by
      rw [upd_ne npl.symm] at hl
      exact hl
    obtain ⟨nhp, nqp⟩ := hh.h_ne hp
    obtain ⟨nhl, nql⟩ := hh.h_ne hl0
    refine ⟨_, rfl, _, _, rfl, rfl, ⟨by decide, by decide⟩, _, rfl, by omega, by omega, for_range (lo := 0) (n := (m / 2).toNat) (fun i σ H' => ∃ (ns ls : List Int) (v4 v5 v6 : Option V), σ = [some (.ref h), some (.int m), some (.ref p), some (.ref l), v4, v5, v6] ∧
        BI m.toNat ns ls ∧ m.toNat ≤ ls.length + 2 * i ∧ ls.length ≤ m.toNat ∧ But h H H' ∧ Hand H' h q ∧ H' p = some (.lst (ns.map V.int)) ∧ H' l = some (.lst (ls.map V.int)))
      ⟨idI m.toNat, idI m.toNat, none, none, none, rfl, BI.start _, by simp [idI], by simp [idI], ((But.refl h H).put2 hp).put2 hl0, (hh.put nhp nqp).put nhl nql, by rw [upd_ne npl, upd_same], upd_same⟩ ?_ ?_⟩
    · rintro i σ H1 hi ⟨ns, ls, v4, v5, v6, rfl, B, hc, lsm, b1, h1, ep, el⟩
      have hls : 2 ≤ ls.length := by omega
      refine ⟨_, rfl, h, q, 3, rfl, by decide, by decide, h1, fun v H2 v0 v3 b2 h2 => ⟨rfl, _, rfl, ?_⟩⟩
      refine ifD (fun c => ?_) (fun c => ⟨ns, ls, _, _, _, rfl, B, by omega, lsm, b1.trans b2, h2, b2 _ _ nhp.symm ep, b2 _ _ nhl.symm el⟩)
      have ep2 := b2 _ _ nhp.symm ep
      have el2 := b2 _ _ nhl.symm el
      have lml : (ls.map V.int).length = ls.length := List.length_map _
      refine ⟨_, rfl, .inl ⟨rfl, _, SqL.of el2⟩, _, rfl, _, rfl, l, _, rfl, .inl (SqL.of el2), h, q, _, rfl, by omega, by omega, h2, fun a H3 a0 a1 b3 h3 => ?_⟩
      have ep3 := b3 _ _ nhp.symm ep2
      have el3 := b3 _ _ nhl.symm el2
      rw [lml] at a1
      have hla : a.toNat < ls.length := by omega
      have hA : ls[a.toNat]? = some ls[a.toNat] := List.getElem?_eq_getElem hla
      generalize ls[a.toNat] = x at hA
      refine ⟨l, _, a, a.toNat, .int x, rfl, rfl, el3, by omega, by omega, seq_at a0 (by omega), ints_at hA, ?_⟩
      rw [map_erase]
      have e1 : (upd H3 l (.lst ((ls.eraseIdx a.toNat).map V.int))) l = some (.lst ((ls.eraseIdx a.toNat).map V.int)) := upd_same
      have ep4 : (upd H3 l (.lst ((ls.eraseIdx a.toNat).map V.int))) p = some (.lst (ns.map V.int)) := by rw [upd_ne npl]; exact ep3
      have h4 : Hand (upd H3 l (.lst ((ls.eraseIdx a.toNat).map V.int))) h q := h3.put nhl nql
      have b4 : But h H (upd H3 l (.lst ((ls.eraseIdx a.toNat).map V.int))) := ((b1.trans b2).trans b3).put2 hl0
      have le : (ls.eraseIdx a.toNat).length = ls.length - 1 := by rw [List.length_eraseIdx, if_pos hla]
      have lml2 : ((ls.eraseIdx a.toNat).map V.int).length = ls.length - 1 := by rw [List.length_map, le]
      generalize upd H3 l (.lst ((ls.eraseIdx a.toNat).map V.int)) = H4 at e1 ep4 h4 b4
      refine ⟨_, rfl, .inl ⟨rfl, _, SqL.of e1⟩, _, rfl, _, rfl, l, _, rfl, .inl (SqL.of e1), h, q, _, rfl, by omega, by omega, h4, fun b H5 b0' b1' b5 h5 => ?_⟩
      have ep5 := b5 _ _ nhp.symm ep4
      have el5 := b5 _ _ nhl.symm e1
      rw [lml2] at b1'
      have hlb : b.toNat < (ls.eraseIdx a.toNat).length := by omega
      have hB : (ls.eraseIdx a.toNat)[b.toNat]? = some (ls.eraseIdx a.toNat)[b.toNat] := List.getElem?_eq_getElem hlb
      generalize (ls.eraseIdx a.toNat)[b.toNat] = y at hB
      refine ⟨l, _, b, b.toNat, .int y, rfl, rfl, el5, by omega, by omega, seq_at b0' (by omega), ints_at hB, ?_⟩
      rw [map_erase]
      have B2 := B.step hA hB
      obtain ⟨x0, x1, _⟩ := B.fx x (List.mem_of_getElem? hA)
      obtain ⟨y0, y1, _⟩ := B.fx y (erase_mem B.nd hA (List.mem_of_getElem? hB)).1
      have lns := B.len
      have ep6 : (upd H5 l (.lst (((ls.eraseIdx a.toNat).eraseIdx b.toNat).map V.int))) p = some (.lst (ns.map V.int)) := by rw [upd_ne npl]; exact ep5
      refine ⟨_, rfl, _, rfl, _, rfl, p, _, _, x.toNat, rfl, rfl, ep6, ixN_at x0 (by rw [List.length_map]; omega), ?_⟩
      refine ⟨_, rfl, _, rfl, _, rfl, p, _, _, y.toNat, rfl, rfl, upd_same, ixN_at y0 (by rw [List.length_set, List.length_map]; omega), ?_⟩
      refine ⟨_, _, _, _, _, rfl, B2, ?_, ?_, ?_, ?_, ?_, ?_⟩
      · rw [List.length_eraseIdx, if_pos hlb, le]
        omega
      · rw [List.length_eraseIdx, if_pos hlb, le]
        omega
      · exact (((b4.trans b5).put2 hl0).put2 hp).put2 hp
      · exact (((h5.put nhl nql).put nhp nqp).put nhp nqp)
      · rw [upd_same, List.map_set, List.map_set]
      · rw [upd_ne npl.symm, upd_ne npl.symm, upd_same]
    · rintro σ H1 ⟨ns, ls, v4, v5, v6, rfl, B, hc, lsm, b1, h1, ep, el⟩
      have lns := B.len
      refine ⟨_, rfl, k ns p H1 (by omega) ⟨by omega, by omega, fun n hn => ?_, B.inv⟩ b1 hp ep h1⟩
      have := B.rng n hn
      omega
end
end J

set_option Elab.async false
set_option linter.all false
set_option maxRecDepth 100000
set_option maxHeartbeats 4000000
namespace J
open PySem PySem.Spec PyProof.Rows L2
/-! ### list comprehensions of any number of clauses, none with tests -/
abbrev lcE (elt : Expr) (gens : List Comprehension) (scope : Scope) (pos : Pos) : Expr := .ListComp elt gens scope pos
section
variable {prog : Program} {w : World} {A : Around} {R : Result → Shared → Prop} {s : Shared} {elt : Expr} {gens : List Comprehension} {scope : Scope} {pos : Pos} {it acc : Value} {env : Env} {d : Nat} {t i : Expr}
/-- the raising ways of a turn -/
abbrev Nw (prog : Program) (w : World) (A : Around) (env : Env) (R : Result → Shared → Prop) : Value → Shared → Prop := notedBy (model prog w) A env fun e s' => R (.error e) s'
/-- what a turn does behind its store: the next clause, or the item -/
def Rest (prog : Program) (w : World) (A : Around) (elt : Expr) (gens : List Comprehension) (scope : Scope) (pos : Pos) (d : Nat) (acc : Value) (env : Env) (N : Value → Shared → Prop) (B : Shared → Prop) (s : Shared) : Prop :=
  match gens[d + 1]? with
  | some g => g.is_async = 0 ∧ (∀ x, foldedSetIterable g.iter env x = pure x) ∧ wpAny (model prog w) A (eval g.iter env) (fun x s1 => wpAny (model prog w) A (pyIter x) (fun it1 s2 =>
      codeAny (model prog w) A (.compStart (lcE elt gens scope pos) (d + 1) it1 acc env) (fun r s' => match r with
        | .ok _ => B s'
        | .error _ => False) s2) N s1) N s
  | none => wpAny (model prog w) A (eval elt env) (fun x s1 => wpAny (model prog w) A (call (.builtin "list.append") [acc, x]) (fun _ s2 => B s2) N s1) N s
theorem loop_at (hg : gens[d]? = some ⟨t, i, [], 0⟩) (I : Nat → Shared → Prop)
    (turn : ∀ n s, I n s → wpAny (model prog w) A (pyNext it) (fun r s₁ => match r with
      | none => R (.ok .next) s₁
      | some v => wpAny (model prog w) A (letOwnedTupleGo t it v) (fun _ s₂ => wpAny (model prog w) A (assign t env v) (fun _ s₃ => Rest prog w A elt gens scope pos d acc env (Nw prog w A env R) (fun s' => ∃ m, m < n ∧ I m s') s₃) (Nw prog w A env R) s₂) (Nw prog w A env R) s₁) (Nw prog w A env R) s)
    (n : Nat) (h : I n s) : codeAny (model prog w) A (.compLoop (lcE elt gens scope pos) d it acc env) R s := by
  refine codeAny_loop rfl I (fun n s hI => ?_) n h
  show wpAny _ A ((compTurn (lcE elt gens scope pos) d it acc env).onRaise (fun x => do noteFrame x env; theTreesLotGoes x)) _ _ s
  refine wpAny_noted ?_
  unfold compTurn lcE
  dsimp only
  rw [hg]
  dsimp only
  refine wpAny_bind (wpAny_standAt (wpAny_bind ?_))
  show wpAny _ A (pyNext it) _ _ _
  refine wpAny_mono (turn n s hI) (fun r s₁ h₁ => ?_) fun _ _ h' => h'
  cases r with
  | none => exact wpAny_pure h₁
  | some v =>
    refine wpAny_bind (wpAny_mono h₁ (fun _ s₂ h₂ => wpAny_bind (wpAny_mono h₂ (fun _ s₃ h₃ => ?_) fun _ _ h' => h')) fun _ _ h' => h')
    refine wpAny_bind ?_
    rw [List.forIn_nil]
    refine wpAny_pure ?_
    unfold Rest at h₃
    rw [if_pos rfl]
    split at h₃
    · rename_i g' eg
      rw [eg]
      obtain ⟨ha, hs, h₃⟩ := h₃
      dsimp only
      refine wpAny_bind (wpAny_mono h₃ (fun x s₄ h₄ => ?_) fun _ _ h' => h')
      refine wpAny_bind (wpAny_standAt ?_)
      have a0 : (g'.is_async != 0) = false := by rw [ha]; rfl
      simp only [a0, Bool.false_eq_true, if_false]
      refine wpAny_bind (wpAny_of_eq (hs x) (wpAny_bind (wpAny_holding (wpAny_mono h₄ (fun it1 s₅ h₅ => ?_) fun _ _ h' => h'))))
      refine wpAny_bind (wpAny_runOwn ?_)
      rw [Around.mark_none]
      refine codeAny_mono h₅ fun r s' hr => ?_
      cases r with
      | ok f =>
        first
          | exact wpAny_pure ⟨rfl, hr⟩
          | exact wpAny_bind (wpAny_pure (wpAny_pure ⟨rfl, hr⟩))
      | error e => exact hr.elim
    · rename_i eg
      rw [eg]
      exact wpAny_bind (wpAny_bind (wpAny_mono h₃ (fun x s₄ h₄ => wpAny_bind (wpAny_mono h₄ (fun _ s₅ h₅ => wpAny_pure (wpAny_pure ⟨rfl, h₅⟩)) fun _ _ h' => h')) fun _ _ h' => h'))
theorem start_at (hg : gens[d]? = some ⟨t, i, [], 0⟩) (h0 : codeAny (model prog w) A (.compLoop (lcE elt gens scope pos) d it acc env) R s)
    (h : wpAny (model prog w) A (pyIter it) (fun it' s' => codeAny (model prog w) A (.compLoop (lcE elt gens scope pos) d it' acc env) R s') (Nw prog w A env R) s) :
    codeAny (model prog w) A (.compStart (lcE elt gens scope pos) d it acc env) R s := by
  refine codeAny_of_tree ?_
  have e1 : (clausesOf (lcE elt gens scope pos))[d]? = some ⟨t, i, [], 0⟩ := hg
  show wpAny _ _ ((compStart (lcE elt gens scope pos) d it acc env).onRaise (fun x => do noteFrame x env; standAt theWindowsPlace)) _ _ s
  refine wpAny_notedAt ?_
  unfold compStart
  rw [e1]
  show wpAny _ _ (ask >>= _) _ _ s
  refine wpAny_bind (wpAny_askSetting (wpAny_ite ?_))
  split
  · first
      | exact wpAny_bind (wpAny_pure (wpAny_pure (And.intro rfl h0)))
      | exact wpAny_pure (And.intro rfl h0)
  · have fin := wpAny_mono h (fun it' s' h' => (wpAny_pure (And.intro rfl h') : wpAny (model prog w) A (again (.compLoop (lcE elt gens scope pos) d it' acc env)) (fun f s' => match f with | .done f => R (.ok f) s' | .again c' => c'.quiet = true ∧ codeAny (model prog w) A c' R s') (Nw prog w A env R) s')) fun _ _ x => x
    first
      | exact wpAny_bind (wpAny_rule (wpAny_bind (wpAny_standAt (wpAny_bind fin))))
      | (refine wpAny_bind (wpAny_rule ?_); show wpAny _ _ (standAt i.pos >>= _) _ _ s; exact wpAny_bind (wpAny_standAt (wpAny_bind fin)))
end
/-! ### in the words of the hand layer -/
abbrev TB := L2.St → Hp → (Hp → Prop) → Prop
/-- the item that is put behind the list at D -/
def bElt (te : TE) (D : Addr) : TB := fun σ H Nx => te σ H fun y H7 => ∃ acc, H7 D = some (.lst acc) ∧ acc.length < sizeLine ∧ Nx (upd H7 D (.lst (acc ++ [y])))
/-- a clause, and what stands behind it -/
def bFor (wi : TI) (g : TG) (vs : List Nat) (body : TB) : TB := fun σ H Nx => wi σ H fun J H4 => ∃ W : Nat → Nat → Hp → Prop, (∃ m, W 0 m H4) ∧ ∀ j k H, W j k H →
  (J.stop j H ∧ Nx H) ∨ (J.go j H ∧ ∃ N1 : Hp → Prop, (∀ H', N1 H' → ∃ k', k' < k ∧ W (j + 1) k' H') ∧ ∀ x H', J.yld j H x H' → g x (wipe σ vs) H' fun σ3 H5 => wipe σ3 vs = wipe σ vs ∧ body σ3 H5 N1)
/-- the body does what its word says, from a block's context; fs: the slots that it may forget -/
def Real (Y : Cx) (elt : Expr) (gens : List Comprehension) (scope : Scope) (pos : Pos) (d : Nat) (D : Addr) (fs : List Nat) (body : TB) : Prop :=
  ∀ (pins : List (Addr × Obj)) (σ : L2.St) (H : Hp) (s : Shared) (Nx : Hp → Prop) (N : Value → Shared → Prop), Inv Y pins σ H s → body σ H Nx →
    Rest Y.prog Y.w Y.A elt gens scope pos d (.ref D) Y.env N (fun s' => ∃ (σ' : L2.St) (H' : Hp), Inv Y pins σ' H' s' ∧ σ'.length = σ.length ∧ (∀ (j : Nat) v, j ∉ fs → σ[j]? = some (some v) → σ'[j]? = some (some v)) ∧ Nx H') s
section
variable {Y : Cx} {elt t i : Expr} {gens : List Comprehension} {scope : Scope} {pos : Pos} {d : Nat} {D : Addr} {te : TE} {wi : TI} {g : TG} {vs fs : List Nat} {body : TB}
theorem quiet {α : Type} {m : Sem α} {M : Model} {A : Around} {P P' : α → Shared → Prop} {E E' : Value → Shared → Prop} {s : Shared} (hE : ∀ v s, ¬ E v s) (h : wpAny M A m P E s) (hP : ∀ a s, P a s → P' a s) : wpAny M A m P' E' s := wpAny_mono h hP fun v s z => (hE v s z).elim
theorem real_elt (hx : ∀ v s, ¬ Y.xe v s) (hn : gens[d + 1]? = none) (he : PE Y elt te) : Real Y elt gens scope pos d D [] (bElt te D) := by
  intro pins σ H s Nx N I h
  unfold Rest
  rw [hn]
  refine quiet hx (he.run pins s σ H _ I h) fun z s1 ⟨yv, H1, I1, r1, acc, hD, hz, nx⟩ => ?_
  exact app_ok (X := Y) I1 hD hz r1 fun s2 I2 => ⟨σ, _, I2, rfl, fun j v _ e => e, nx⟩
theorem real_for (hx : ∀ v s, ¬ Y.xe v s) (hc : Y.calm = true) (hn : gens[d + 1]? = some ⟨t, i, [], 0⟩) (hs : ∀ x, foldedSetIterable i Y.env x = pure x) (hi : PI Y t i wi) (hg : PG Y t g) (hf : ∀ j ∈ fs, j ∈ vs)
    (hb : Real Y elt gens scope pos (d + 1) D fs body) : Real Y elt gens scope pos d D vs (bFor wi g vs body) := by
  intro pins σ H s Nx N I h
  unfold Rest
  rw [hn]
  refine ⟨rfl, hs, quiet hx (hi.run pins s σ H _ I h) fun xv s1 e1 => quiet hx e1 fun itv s2 e2 => ?_⟩
  obtain ⟨a, fp, tn, J, H2, rfl, I2, T, st2, f2, W, ⟨m0, w0⟩, turn⟩ := e2
  have stay : ∀ {H' : Hp}, (∀ b ∈ fp, H' b = none) → ∀ b ∈ fp, FpOk Y pins H' b := fun hn b hb => ⟨hn b hb, (f2 b hb).2⟩
  have wl : (wipe σ vs).length = σ.length := wipe_length _ _
  have lp : codeAny (model Y.prog Y.w) Y.A (.compLoop (lcE elt gens scope pos) (d + 1) (.ref a) (.ref D) Y.env)
      (fun r s' => match r with
        | .ok _ => ∃ (σ' : L2.St) (H' : Hp), Inv Y pins σ' H' s' ∧ σ'.length = σ.length ∧ (∀ (j : Nat) v, j ∉ vs → σ[j]? = some (some v) → σ'[j]? = some (some v)) ∧ Nx H'
        | .error _ => False) s2 := by
    refine loop_at hn (fun k s' => ∃ j H', Inv Y pins (wipe σ vs) H' s' ∧ tn j s'.heap ∧ (∀ b ∈ fp, H' b = none) ∧ W j k H') ?_ m0 ⟨0, H2, I2.weak wl (fun j v e => (wipe_some e).1), st2, fun b hb => (f2 b hb).1, w0⟩
    rintro k s3 ⟨j, H3, I3, st3, n3, w3⟩
    rcases turn j k H3 w3 with ⟨stop, nx⟩ | ⟨go, N1, hN, step⟩
    · refine quiet (fun _ _ z => z) (T.done Y rfl rfl rfl hc j pins s3 (wipe σ vs) H3 (fun _ _ => False) I3 (stay n3) st3 stop) fun r s4 ⟨hr, I4⟩ => ?_
      subst hr
      exact ⟨wipe σ vs, H3, I4, wl, fun j v hj e => by rw [wipe_out hj]; exact e, nx⟩
    · refine quiet (fun _ _ z => z) (T.item Y rfl rfl rfl hc j pins s3 (wipe σ vs) H3 (fun _ _ => False) I3 (stay n3) st3 go) fun r s4 ⟨u, hr, e4⟩ => ?_
      subst hr
      refine quiet (fun _ _ z => z) e4 fun _ s5 ⟨x, H5, I5, r5, y5, st5, n5⟩ => ?_
      have J5 := I5.pinned (stay n5) (T.obj _ _ st5)
      refine quiet hx (hg.run _ s5 (wipe σ vs) H5 x u _ J5 r5 (step x H5 y5)) fun _ s6 ⟨σ6, H6, I6, hw, q6⟩ => ?_
      have l6 : σ6.length = σ.length := by
        have := congrArg List.length hw
        rw [wipe_length, wipe_length] at this
        exact this
      have back := hb _ σ6 H6 s6 N1 (Nw Y.prog Y.w Y.A Y.env fun r s' => match r with
        | .ok _ => ∃ (σ' : L2.St) (H' : Hp), Inv Y pins σ' H' s' ∧ σ'.length = σ.length ∧ (∀ (j : Nat) v, j ∉ vs → σ[j]? = some (some v) → σ'[j]? = some (some v)) ∧ Nx H'
        | .error _ => False) I6 q6
      have fin : ∀ s', (∃ (σ' : L2.St) (H' : Hp), Inv Y (pins ++ pinsAt fp s5.heap) σ' H' s' ∧ σ'.length = σ6.length ∧ (∀ (j : Nat) v, j ∉ fs → σ6[j]? = some (some v) → σ'[j]? = some (some v)) ∧ N1 H') →
          ∃ m, m < k ∧ ∃ j H', Inv Y pins (wipe σ vs) H' s' ∧ tn j s'.heap ∧ (∀ b ∈ fp, H' b = none) ∧ W j m H' := by
        rintro s' ⟨σ', H', I', hl, hk, nx⟩
        obtain ⟨m', hm, w'⟩ := hN H' nx
        have held : ∀ b ∈ fp, ∀ o, s5.heap.get? b = some o → s'.heap.get? b = some o ∧ H' b = none := fun b hb o e =>
          ⟨(I'.pin (b, o) (List.mem_append_right _ (List.mem_append_right _ (mem_pinsAt hb e)))).1, (I'.pin (b, o) (List.mem_append_right _ (List.mem_append_right _ (mem_pinsAt hb e)))).2.1⟩
        refine ⟨m', hm, j + 1, H', I'.unpinned.weak (by rw [wl, hl, l6]) (fun n v e => ?_), T.keep _ _ _ st5 fun b hb o e => (held b hb o e).1, fun b hb => ?_, w'⟩
        · rw [← hw] at e
          obtain ⟨p1, p2⟩ := wipe_some e
          exact hk n v (fun z => p2 (hf n z)) p1
        · obtain ⟨o, e, _⟩ := T.obj _ _ st5 b hb
          exact (held b hb o e).2
      -- what the body leaves is the next turn
      unfold Rest at back ⊢
      split at back
      · rename_i g' eg
        try rw [eg]
        obtain ⟨b1, b2, b3⟩ := back
        refine ⟨b1, b2, wpAny_mono b3 (fun _ _ z => wpAny_mono z (fun _ _ y => codeAny_mono y fun r s' q => ?_) fun _ _ z => z) fun _ _ z => z⟩
        cases r with
        | ok f => exact fin s' q
        | error e => exact q
      · rename_i eg
        try rw [eg]
        exact wpAny_mono back (fun _ _ z => wpAny_mono z (fun _ s' q => fin s' q) fun _ _ z => z) fun _ _ z => z
  exact start_at hn lp (T.self Y.A 0 _ _ _ st2 lp)
end
/-- a whole comprehension: its first clause walked, the new list at D, the rest by its body -/
def tLcN (wi : TI) (g : TG) (body : Addr → TB) (vs : List Nat) : TE := fun σ H Q => wi σ H fun J H1 => ∀ D, H1 D = none → ∃ W : Nat → Nat → Hp → Prop, (∃ m, W 0 m (upd H1 D (.lst []))) ∧ ∀ j k H, W j k H →
  (J.stop j H ∧ Q (.ref D) H) ∨ (J.go j H ∧ ∃ N1 : Hp → Prop, (∀ H', N1 H' → ∃ k', k' < k ∧ W (j + 1) k' H') ∧ ∀ x H', J.yld j H x H' → g x (wipe σ vs) H' fun σ3 H5 => wipe σ3 vs = wipe σ vs ∧ body D σ3 H5 N1)
section
variable {X : Cx}
theorem pe_lcN {elt tg iter : Expr} {rest : List Comprehension} {scope : Scope} {own : List (Str × Nat)} {pos : Pos} {wi : TI} {g : TG} {body : Addr → TB} {fs : List Nat} (hc : X.calm = true) (hN : X.N.Nodup) (hi : PI X tg iter wi) (ok : BlkOk X.N X.env.scope scope own)
    (hg : ∀ (s : Shared) (H : Hp) (C : Addr) (cl : List (Str × Addr)) (fp : List Addr), PG (X.blk s H scope (compEnvC scope cl C X.env) fp) tg g)
    (hb : ∀ (s : Shared) (H : Hp) (C : Addr) (cl : List (Str × Addr)) (fp : List Addr) (D : Addr), Real (X.blk s H scope (compEnvC scope cl C X.env) fp) elt (⟨tg, iter, [], 0⟩ :: rest) scope pos 0 D fs (body D)) (hf : ∀ j ∈ fs, j ∈ own.map (·.2))
    (hs : ∀ x, foldedSetIterable iter X.env x = pure x := by intro _; rfl) : PE X (.ListComp elt (⟨tg, iter, [], 0⟩ :: rest) scope pos) (tLcN wi g body (own.map (·.2))) := by
  refine ⟨fun pins s σ H Q I h => ?_⟩
  rw [eval_ListComp]
  have fr : ∀ y ∈ scope.names, y.2 = .free → ∃ c, X.env.cells.lookup y.1 = some c := fun y hy e => (ok.free y hy e).elim (fun k => I.ok.has _ (.inl k)) fun k => I.ok.has _ (.inr k)
  refine wpAny_comprehension_free (use := none) rfl hs (closure_ok fr) ok.kind (fun y hy e => by rw [ok.uniq y hy, e])
    (thn (hi.run pins s σ H _ I h) fun xv s1 e1 => thn e1 fun itv s2 e2 => ?_)
  obtain ⟨a, fp, tn, J, H2, rfl, I2, T, st2, f2, q⟩ := e2
  refine wpAny_newObj_type (newEnv_comp ?_) (by show 0 ≤ sizeLine; decide)
  generalize eD : s2.heap.objs.size = D
  have nD : H2 D = none := I2.hok.fresh (Nat.le_of_eq eD)
  obtain ⟨W, ⟨m0, w0⟩, turn⟩ := q D nD
  generalize es3 : ({ s2 with heap := s2.heap.push { cls := .type "list", data := .seq ([] : List Value).toArray } } : Shared) = s3
  have hp3 : s3.heap = s2.heap.push { cls := .type "list", data := .seq ([] : List Value).toArray } := by rw [← es3]
  have I3 : Inv X pins σ (upd H2 D (.lst [])) s3 := by
    subst es3
    exact I2.laid (t' := s2.toks) (fun b o e => Heap.get?_push_of_some _ e) (Nat.le_of_eq eD) ⟨Nat.zero_le _, [], 0, .nil, by rw [← eD]; exact Heap.get?_push_size _ rfl⟩
  have low : ∀ b ∈ fp, b < s2.heap.objs.size := fun b hb => let ⟨o, e, _⟩ := T.obj _ _ st2 b hb; Heap.lt_size e
  have f3 : ∀ b ∈ fp, FpOk X pins (upd H2 D (.lst [])) b ∧ b < s3.heap.objs.size := fun b hb =>
    ⟨⟨by rw [upd_ne (by rw [← eD]; exact Nat.ne_of_lt (low b hb))]; exact (f2 b hb).1, (f2 b hb).2⟩, by rw [hp3, Heap.size_push]; exact Nat.lt_succ_of_lt (low b hb)⟩
  have st3 : tn 0 s3.heap := T.keep _ _ _ st2 fun b _ o e => by rw [hp3]; exact Heap.get?_push_of_some _ e
  have I4 := block_start I3 ok hN f3
  have G := hg s3 (upd H2 D (.lst [])) s3.heap.objs.size (cellsFrom (s3.heap.objs.size + 1) scope.names (cloFrom X.env.cells scope.names [])) fp
  have B := hb s3 (upd H2 D (.lst [])) s3.heap.objs.size (cellsFrom (s3.heap.objs.size + 1) scope.names (cloFrom X.env.cells scope.names [])) fp D
  have no3 : ∀ b ∈ fp, (upd H2 D (.lst [])) b = none := fun b hb => (f3 b hb).1.1
  show codeAny _ _ (.compStart (lcE elt (⟨tg, iter, [], 0⟩ :: rest) scope pos) 0 (.ref a) (.ref D) (compEnvC scope (cellsFrom (s3.heap.objs.size + 1) scope.names (cloFrom X.env.cells scope.names [])) s3.heap.objs.size X.env)) (compPost (model X.prog X.w) X.A X.xe none (EP X pins σ Q) (.ref D) s3.heap.objs.size) { s3 with heap := pushCells (s3.heap.push { cls := .type "dict", data := .dict #[] }) scope.names }
  generalize ece : compEnvC scope (cellsFrom (s3.heap.objs.size + 1) scope.names (cloFrom X.env.cells scope.names [])) s3.heap.objs.size X.env = ce at I4 G B ⊢
  have cl : ce.locals = s3.heap.objs.size := by subst ece; rfl
  generalize eH3 : upd H2 D (.lst []) = H3 at I3 I4 G B w0 no3 f3
  generalize es4 : ({ s3 with heap := pushCells (s3.heap.push { cls := .type "dict", data := .dict #[] }) scope.names } : Shared) = s4 at I4 ⊢
  have st4 : tn 0 s4.heap := T.keep _ _ _ st3 fun b _ o e => by rw [← es4]; exact pushCells_keeps _ _ _ _ (Heap.get?_push_of_some _ e)
  have stay : ∀ {σ' : L2.St} {H' : Hp} {s' : Shared}, Inv (X.blk s3 H3 scope ce fp) [] σ' H' s' → (∀ b ∈ fp, H' b = none) → ∀ b ∈ fp, FpOk (X.blk s3 H3 scope ce fp) [] H' b := fun {σ' H' s'} I' hn b hb =>
    ⟨hn b hb, (I'.ok.exf b hb).1, I'.ok.exfs b hb, .inl hb, fun x c e => (I'.ok.exf b hb).2 x c e, fun p hp => absurd (show p ∈ ([] : List (Addr × Obj)) ++ [] from hp) (by simp)⟩
  have hx : ∀ v s, ¬ (X.blk s3 H3 scope ce fp).xe v s := fun _ _ z => z
  have lp : codeAny (model X.prog X.w) X.A (.compLoop (lcE elt (⟨tg, iter, [], 0⟩ :: rest) scope pos) 0 (.ref a) (.ref D) ce) (compPost (model X.prog X.w) X.A X.xe none (EP X pins σ Q) (.ref D) s3.heap.objs.size) s4 := by
    refine loop_at (t := tg) (i := iter) rfl (fun k s' => ∃ j H', Inv (X.blk s3 H3 scope ce fp) [] (wipe σ (own.map (·.2))) H' s' ∧ tn j s'.heap ∧ (∀ b ∈ fp, H' b = none) ∧ W j k H') ?_ m0 ⟨0, H3, I4, st4, no3, w0⟩
    rintro k s5 ⟨j, H5, I5, st5, n5, w5⟩
    rcases turn j k H5 w5 with ⟨stop, qq⟩ | ⟨go, N1, hN1, step⟩
    · refine quiet (fun _ _ z => z) (T.done (X.blk s3 H3 scope ce fp) rfl rfl rfl hc j [] s5 _ H5 (fun _ _ => False) I5 (stay I5 n5) st5 stop) fun r s6 ⟨hr, I6⟩ => ?_
      subst hr
      have I7 : Inv X pins σ H5 s6 := I3.call' (ch := fp) I6.os I6.base I6.hok I6.bare fun b hb => ⟨(f3 b hb).1.2.2.2.1, (f3 b hb).1.2.1, (f3 b hb).1.2.2.2.2.1, (f3 b hb).1.2.2.2.2.2⟩
      have free : H5 s3.heap.objs.size = none := by
        have z : H5 ce.locals = none := I6.free
        rwa [cl] at z
      obtain ⟨m, hm, _⟩ := I6.loc
      have hm : s6.heap.Ns ce.locals m := hm
      rw [cl] at hm
      obtain ⟨g0, g1, g2, g3, g4, g5⟩ := I3.fpOk (Nat.le_refl _) free
      exact ⟨m, hm, fun h' sb => ⟨.ref D, H5, I7.turned (t' := s6.toks) (fun b o hb e => (sb.2 b hb).trans e) g0 g1 g3 g4 g5, rfl, qq⟩⟩
    · refine quiet (fun _ _ z => z) (T.item (X.blk s3 H3 scope ce fp) rfl rfl rfl hc j [] s5 _ H5 (fun _ _ => False) I5 (stay I5 n5) st5 go) fun r s6 ⟨u, hr, e6⟩ => ?_
      subst hr
      refine quiet (fun _ _ z => z) e6 fun _ s7 ⟨x, H7, I7, r7, y7, st7, n7⟩ => ?_
      have J7 := I7.pinned (stay I7 n7) (T.obj _ _ st7)
      refine quiet hx (G.run _ s7 _ H7 x u _ J7 r7 (step x H7 y7)) fun _ s8 ⟨σ8, H8, I8, hw, q8⟩ => ?_
      have back := B _ σ8 H8 s8 N1 (Nw X.prog X.w X.A ce fun r s' => compPost (model X.prog X.w) X.A X.xe none (EP X pins σ Q) (.ref D) s3.heap.objs.size r s') I8 q8
      have l8 : σ8.length = σ.length := by
        have := congrArg List.length hw
        rw [wipe_length, wipe_length] at this
        exact this
      have fin : ∀ s', (∃ (σ' : L2.St) (H' : Hp), Inv (X.blk s3 H3 scope ce fp) ([] ++ pinsAt fp s7.heap) σ' H' s' ∧ σ'.length = σ8.length ∧ (∀ (n : Nat) v, n ∉ fs → σ8[n]? = some (some v) → σ'[n]? = some (some v)) ∧ N1 H') →
          ∃ m, m < k ∧ ∃ j H', Inv (X.blk s3 H3 scope ce fp) [] (wipe σ (own.map (·.2))) H' s' ∧ tn j s'.heap ∧ (∀ b ∈ fp, H' b = none) ∧ W j m H' := by
        rintro s' ⟨σ', H', I', hl, hk, nx⟩
        obtain ⟨m', hm, w'⟩ := hN1 H' nx
        have held : ∀ b ∈ fp, ∀ o, s7.heap.get? b = some o → s'.heap.get? b = some o ∧ H' b = none := fun b hb o e =>
          ⟨(I'.pin (b, o) (List.mem_append_right _ (List.mem_append_right _ (mem_pinsAt hb e)))).1, (I'.pin (b, o) (List.mem_append_right _ (List.mem_append_right _ (mem_pinsAt hb e)))).2.1⟩
        refine ⟨m', hm, j + 1, H', (I'.unpinned (pins := [])).weak (by rw [wipe_length, hl, l8]) (fun n v e => ?_), T.keep _ _ _ st7 fun b hb o e => (held b hb o e).1, fun b hb => ?_, w'⟩
        · rw [← hw] at e
          obtain ⟨p1, p2⟩ := wipe_some e
          exact hk n v (fun z => p2 (hf n z)) p1
        · obtain ⟨o, e, _⟩ := T.obj _ _ st7 b hb
          exact (held b hb o e).2
      unfold Rest at back ⊢
      split at back
      · rename_i g' eg
        try rw [eg]
        obtain ⟨b1, b2, b3⟩ := back
        refine ⟨b1, b2, wpAny_mono b3 (fun _ _ z => wpAny_mono z (fun _ _ y => codeAny_mono y fun r s' q => ?_) fun _ _ z => z) fun _ _ z => z⟩
        cases r with
        | ok f => exact fin s' q
        | error e => exact q
      · rename_i eg
        try rw [eg]
        exact wpAny_mono back (fun _ _ z => wpAny_mono z (fun _ s' q => fin s' q) fun _ _ z => z) fun _ _ z => z
  exact codeAny_compStart_list lp (T.self X.A 0 _ _ _ st4 lp)
end
end J

set_option Elab.async false
set_option linter.all false
set_option maxRecDepth 100000
set_option maxHeartbeats 4000000
namespace J
open PySem PySem.Spec PyProof.Rows L2
abbrev rTup (K : PySem.W.Frag) : List V → Hp → VK → Prop := fun xs H Q => ∃ p ys, xs = [.ref p] ∧ ((SqL K H p ys ∧ ∀ l, H l = none → Q (.ref l) (upd H l (.tup ys))) ∨ (SqT K H p ys ∧ Q (.ref p) H))
abbrev rLen (K : PySem.W.Frag) : List V → Hp → VK → Prop := fun xs H Q => ∃ p ys, xs = [.ref p] ∧ (SqL K H p ys ∨ SqT K H p ys) ∧ Q (.int (ys.length : Nat)) H
abbrev rLst (K : PySem.W.Frag) : List V → Hp → VK → Prop := fun xs H Q => ∃ p ys, xs = [.ref p] ∧ (SqL K H p ys ∨ SqT K H p ys) ∧ ∀ l, H l = none → Q (.ref l) (upd H l (.lst ys))
/-! ### a three -/
def threeB (ns : List Int) : Sh → Bool
  | .lst xs => decide (xs.length = 3) && xs.all (tieB ns)
  | .tup xs => decide (xs.length = 3) && xs.all (tieB ns)
  | _ => false
theorem threeB_len {ns : List Int} {xs : List V} (h : ¬ xs.length = 3) : threeB ns (.lst xs) = false := by
  show (decide (xs.length = 3) && xs.all (tieB ns)) = false
  rw [decide_eq_false h]
  rfl
theorem threeB_all {ns : List Int} {xs : List V} (h : xs.length = 3) : threeB ns (.lst xs) = (xs.map (tieB ns)).all id := by
  show (decide (xs.length = 3) && xs.all (tieB ns)) = _
  rw [decide_eq_true h, List.all_map, Bool.true_and]
  rfl
theorem V.int_nat {n : Nat} (h : V.int ((n : Nat) : Int) = V.int 3) : n = 3 := by
  injection h with h
  omega
theorem ifB {c A B : Prop} [Decidable c] (h1 : ¬ c → A) (h2 : c → B) : if (!decide c) = true then A else B := by
  by_cases h : c
  · rw [decide_eq_true h]
    exact iteF (h2 h)
  · rw [decide_eq_false h]
    exact iteT (h1 h)
abbrev s_is_three : Stmt := top 13
theorem sc_is_three : FnScope ["ties", "thing", "tie"] ["ties", "thing"] (defScope s_is_three) := ⟨rfl, rfl, rfl, by decide +kernel, rfl, by decide +kernel, by decide +kernel⟩
def spThree (C : Addr) : Sp := fun vs H Q _ => ∃ (x : Addr) (ns : List Int) (v : V) (s : Sh), vs = [.ref x, v] ∧ TiesAt C H x ns ∧ Is H v s ∧ Known H (items s) ∧ ∀ H', Same H H' → Q (.bl (threeB ns s)) H'
section
variable {P : Program} {w : World} {K : PySem.W.Frag} {mg : Str → Option Value} {base : Heap}
theorem ok_is_three {f C fS fH : Addr} {fd fdS fdH : FuncData} (F : Fun K "is_three" "is_three" s_is_three f fd) (T : TiC K C) (nl : mg "len" = none) (na : mg "all" = none) (GS : Cal P w K mg base CX0 1 "is_sequence" fS fdS ["thing"] spSeq)
    (GH : Mt P w K mg base CX0 2 C "has" fH fdH ["self", "thing"] (spHas C)) : FnOk P w K mg base CX0 3 f fd ["ties", "thing"] (spThree C) := by
  refine F.ok sc_is_three (fun vs H Q E h => ?_) (fun cdv A outer s H vs Q E hr h => ?_)
  · obtain ⟨x, ns, v, s, rfl, _⟩ := h
    rfl
  · obtain ⟨x, ns, v, s, rfl, hT, hv, kn, k⟩ := h
    cases s with
    | sc u =>
      refine ⟨_, (pss_cons 
  (ps_if (PW.pt (pw_or (pt_not (pt_val (pcal GS hr pass0 (pa_cons (pv 1) pa_nil)))) (pw_or1 (pt_cmpR op_ne (pe_callB call_len_seq (by rfl) nl PySem.boot_len (pa_cons (pv 1) pa_nil)) pe_int (nomark _))))) (pss_one 
    (ps_ret pe_bl)) pss_nil) (pss_one 
  (ps_ret (pe_callB (cr_all rfl) (by rfl) na (by decide +kernel) (pa_cons (pe_lc (own := [("tie", 2)]) (g := gName 2) (by rfl) sc_is_three.nd (pi_list (pv 1)) (blkOk_by (own := [("tie", 2)]) (N := ["ties", "thing", "tie"]) (sc := defScope s_is_three) (by decide +kernel)) (fun _ _ _ _ _ => pg_name (i := 2) sc_is_three.nd rfl (Or.inl rfl)) (fun _ _ _ _ _ => pts_nil) (fun _ _ _ _ _ => (pe_meth (pv 0) T.cl GH.M GH.F hr GH.b .nil pass0 (pa_cons (pv 2) pa_nil)))) pa_nil))))), ?_⟩
      exact ⟨_, rfl, v, .sc u, rfl, hv, fun H1 S1 => ⟨_, rfl, iteT (k _ S1)⟩⟩
    | dk =>
      refine ⟨_, (pss_cons 
  (ps_if (PW.pt (pw_or (pt_not (pt_val (pcal GS hr pass0 (pa_cons (pv 1) pa_nil)))) (pw_or1 (pt_cmpR op_ne (pe_callB call_len_seq (by rfl) nl PySem.boot_len (pa_cons (pv 1) pa_nil)) pe_int (nomark _))))) (pss_one 
    (ps_ret pe_bl)) pss_nil) (pss_one 
  (ps_ret (pe_callB (cr_all rfl) (by rfl) na (by decide +kernel) (pa_cons (pe_lc (own := [("tie", 2)]) (g := gName 2) (by rfl) sc_is_three.nd (pi_list (pv 1)) (blkOk_by (own := [("tie", 2)]) (N := ["ties", "thing", "tie"]) (sc := defScope s_is_three) (by decide +kernel)) (fun _ _ _ _ _ => pg_name (i := 2) sc_is_three.nd rfl (Or.inl rfl)) (fun _ _ _ _ _ => pts_nil) (fun _ _ _ _ _ => (pe_meth (pv 0) T.cl GH.M GH.F hr GH.b .nil pass0 (pa_cons (pv 2) pa_nil)))) pa_nil))))), ?_⟩
      exact ⟨_, rfl, v, .dk, rfl, hv, fun H1 S1 => ⟨_, rfl, iteT (k _ S1)⟩⟩
    | lst xs =>
      obtain ⟨p, rfl, hp⟩ := hv
      refine ⟨_, (pss_cons 
  (ps_if (PW.pt (pw_or (pt_not (pt_val (pcal GS hr pass0 (pa_cons (pv 1) pa_nil)))) (pw_or1 (pt_cmpR op_ne (pe_callB call_len_seq (by rfl) nl PySem.boot_len (pa_cons (pv 1) pa_nil)) pe_int (nomark _))))) (pss_one 
    (ps_ret pe_bl)) pss_nil) (pss_one 
  (ps_ret (pe_callB (cr_all rfl) (by rfl) na (by decide +kernel) (pa_cons (pe_lc (own := [("tie", 2)]) (g := gName 2) (by rfl) sc_is_three.nd (pi_list (pv 1)) (blkOk_by (own := [("tie", 2)]) (N := ["ties", "thing", "tie"]) (sc := defScope s_is_three) (by decide +kernel)) (fun _ _ _ _ _ => pg_name (i := 2) sc_is_three.nd rfl (Or.inl rfl)) (fun _ _ _ _ _ => pts_nil) (fun _ _ _ _ _ => (pe_meth (pv 0) T.cl GH.M GH.F hr GH.b .nil pass0 (pa_cons (pv 2) pa_nil)))) pa_nil))))), ?_⟩
      refine ⟨_, rfl, _, Sh.lst xs, rfl, ⟨p, rfl, hp⟩, fun H1 S1 => ⟨_, rfl, iteF ?_⟩⟩
      have hp1 := S1 _ _ hp
      refine ⟨_, rfl, p, xs, rfl, .inl (SqL.of hp1), rfl, _, rfl, ?_⟩
      refine ifB (fun c => ?_) (fun c => ?_)
      · have e : threeB ns (.lst xs) = false := threeB_len fun z => c (congrArg (fun n : Nat => V.int (n : Int)) z)
        rw [e] at k
        exact k _ S1
      have l3 : xs.length = 3 := V.int_nat c
      refine ⟨_, rfl, p, rfl, ⟨_, SqL.of hp1⟩, fun D hD => ?_⟩
      refine lc_list (K := K) (a := p) (xs := xs) (fun i H2 => Same H1 H2 ∧ H1 D = none ∧ H2 D = some (.lst ((xs.take i).map fun y => V.bl (tieB ns y)))) ⟨new_same hD, hD, upd_same⟩ (fun i H2 _ ⟨S, _⟩ => SqL.of (S _ _ hp1)) ?_ ?_
      · rintro i y H2 hy ⟨S2, D0, eD⟩
        have hi := (List.getElem?_eq_some_iff.mp hy).1
        obtain ⟨sy, isy⟩ := kn y (List.mem_of_getElem? hy)
        have SS := S1.trans S2
        obtain ⟨dx, t, hx, ht⟩ := id (hT.keep SS)
        refine ⟨rfl, yesT ?_⟩
        refine ⟨_, rfl, x, dx, _, rfl, hx, tf_no _ _ (by decide +kernel) (by decide +kernel), _, rfl, x, ns, y, sy, rfl, ⟨dx, t, hx, ht⟩, isy.keep SS, ?_⟩
        refine ⟨_, eD, by rw [List.length_map, List.length_take]; exact small1000 (by omega), fun b o e => ?_, D0, by rw [upd_same, List.take_add_one, hy, List.map_append]; rfl⟩
        rw [upd_ne (ne_of_none e D0)]
        exact S2 _ _ e
      · rintro H2 ⟨S2, D0, eD⟩
        rw [List.take_length] at eD
        refine ⟨D, xs.map (tieB ns), rfl, SqL.of (by rw [eD, List.map_map]; rfl), ?_⟩
        have e : threeB ns (.lst xs) = (xs.map (tieB ns)).all id := threeB_all l3
        rw [e] at k
        exact k _ (S1.trans S2)
    | tup xs =>
      obtain ⟨p, rfl, hp⟩ := hv
      refine ⟨_, (pss_cons 
  (ps_if (PW.pt (pw_or (pt_not (pt_val (pcal GS hr pass0 (pa_cons (pv 1) pa_nil)))) (pw_or1 (pt_cmpR op_ne (pe_callB call_len_seq (by rfl) nl PySem.boot_len (pa_cons (pv 1) pa_nil)) pe_int (nomark _))))) (pss_one 
    (ps_ret pe_bl)) pss_nil) (pss_one 
  (ps_ret (pe_callB (cr_all rfl) (by rfl) na (by decide +kernel) (pa_cons (pe_lc (own := [("tie", 2)]) (g := gName 2) (by rfl) sc_is_three.nd (pi_tup (pv 1)) (blkOk_by (own := [("tie", 2)]) (N := ["ties", "thing", "tie"]) (sc := defScope s_is_three) (by decide +kernel)) (fun _ _ _ _ _ => pg_name (i := 2) sc_is_three.nd rfl (Or.inl rfl)) (fun _ _ _ _ _ => pts_nil) (fun _ _ _ _ _ => (pe_meth (pv 0) T.cl GH.M GH.F hr GH.b .nil pass0 (pa_cons (pv 2) pa_nil)))) pa_nil))))), ?_⟩
      refine ⟨_, rfl, _, Sh.tup xs, rfl, ⟨p, rfl, hp⟩, fun H1 S1 => ⟨_, rfl, iteF ?_⟩⟩
      have hp1 := S1 _ _ hp
      refine ⟨_, rfl, p, xs, rfl, .inr (SqT.of hp1), rfl, _, rfl, ?_⟩
      refine ifB (fun c => ?_) (fun c => ?_)
      · have e : threeB ns (.tup xs) = false := threeB_len fun z => c (congrArg (fun n : Nat => V.int (n : Int)) z)
        rw [e] at k
        exact k _ S1
      have l3 : xs.length = 3 := V.int_nat c
      refine ⟨_, rfl, p, rfl, ⟨_, SqT.of hp1⟩, fun D hD => ?_⟩
      refine lc_tup (K := K) (a := p) (xs := xs) (fun i H2 => Same H1 H2 ∧ H1 D = none ∧ H2 D = some (.lst ((xs.take i).map fun y => V.bl (tieB ns y)))) ⟨new_same hD, hD, upd_same⟩ (fun i H2 _ ⟨S, _⟩ => SqT.of (S _ _ hp1)) ?_ ?_
      · rintro i y H2 hy ⟨S2, D0, eD⟩
        have hi := (List.getElem?_eq_some_iff.mp hy).1
        obtain ⟨sy, isy⟩ := kn y (List.mem_of_getElem? hy)
        have SS := S1.trans S2
        obtain ⟨dx, t, hx, ht⟩ := id (hT.keep SS)
        refine ⟨rfl, yesT ?_⟩
        refine ⟨_, rfl, x, dx, _, rfl, hx, tf_no _ _ (by decide +kernel) (by decide +kernel), _, rfl, x, ns, y, sy, rfl, ⟨dx, t, hx, ht⟩, isy.keep SS, ?_⟩
        refine ⟨_, eD, by rw [List.length_map, List.length_take]; exact small1000 (by omega), fun b o e => ?_, D0, by rw [upd_same, List.take_add_one, hy, List.map_append]; rfl⟩
        rw [upd_ne (ne_of_none e D0)]
        exact S2 _ _ e
      · rintro H2 ⟨S2, D0, eD⟩
        rw [List.take_length] at eD
        refine ⟨D, xs.map (tieB ns), rfl, SqL.of (by rw [eD, List.map_map]; rfl), ?_⟩
        have e : threeB ns (.tup xs) = (xs.map (tieB ns)).all id := threeB_all l3
        rw [e] at k
        exact k _ (S1.trans S2)
end
end J

set_option Elab.async false
set_option linter.all false
set_option maxRecDepth 100000
set_option maxHeartbeats 8000000
namespace J
open PySem PySem.Spec PyProof.Rows L2
/-! ### the readings of a three -/
def bk (ns : List Int) (t : Int) : Int := (ns[t.toNat]?).getD 0
def InT (ns : List Int) (t : Int) : Prop := 0 ≤ t ∧ t < (ns.length : Nat)
theorem bk_get {ns : List Int} {t : Int} (h : InT ns t) : ns[t.toNat]? = some (bk ns t) := by
  have hl : t.toNat < ns.length := by have := h.1; have := h.2; omega
  unfold bk
  rw [List.getElem?_eq_getElem hl]
  rfl
theorem bk_in {ns : List Int} {t : Int} (g : GoodB ns) (h : InT ns t) : InT ns (bk ns t) := g.rng _ (List.mem_of_getElem? (bk_get h))
theorem bk_bk {ns : List Int} {t : Int} (g : GoodB ns) (h : InT ns t) : bk ns (bk ns t) = t := by
  have := g.inv _ _ (bk_get h)
  show (ns[(bk ns t).toNat]?).getD 0 = t
  rw [this]
  show ((t.toNat : Nat) : Int) = t
  exact Int.toNat_of_nonneg h.1
def six (ns : List Int) (p q r : Int) : List (List Int) := [[p, q, r], [r, bk ns q, p], [bk ns p, r, q], [q, bk ns r, bk ns p], [bk ns r, p, bk ns q], [bk ns q, bk ns p, bk ns r]]
/-- the readings, ascending, each once -/
def RdL (ns : List Int) (p q r : Int) (L : List (List Int)) : Prop := L.Pairwise (fun a b => TS.code 4 a < TS.code 4 b) ∧ ∀ x, x ∈ L ↔ x ∈ six ns p q r
def ks6 (ns : List Int) (p q r : Int) (t1 t2 t3 t4 t5 t6 : Addr) : List (Addr × List Int) := [(t1, [p, q, r]), (t2, [r, bk ns q, p]), (t3, [bk ns p, r, q]), (t4, [q, bk ns r, bk ns p]), (t5, [bk ns r, p, bk ns q]), (t6, [bk ns q, bk ns p, bk ns r])]
theorem ks6_six {ns : List Int} {p q r : Int} {t1 t2 t3 t4 t5 t6 : Addr} {y : Addr × List Int} (h : y ∈ ks6 ns p q r t1 t2 t3 t4 t5 t6) : y.2 ∈ six ns p q r := by
  simp only [ks6, List.mem_cons, List.not_mem_nil, or_false] at h
  rcases h with rfl | rfl | rfl | rfl | rfl | rfl <;> simp [six]
theorem six_ks6 {ns : List Int} {p q r : Int} {t1 t2 t3 t4 t5 t6 : Addr} {x : List Int} (h : x ∈ six ns p q r) : ∃ y ∈ ks6 ns p q r t1 t2 t3 t4 t5 t6, y.2 = x := by
  simp only [six, List.mem_cons, List.not_mem_nil, or_false] at h
  rcases h with rfl | rfl | rfl | rfl | rfl | rfl
  · exact ⟨(t1, _), by simp [ks6], rfl⟩
  · exact ⟨(t2, _), by simp [ks6], rfl⟩
  · exact ⟨(t3, _), by simp [ks6], rfl⟩
  · exact ⟨(t4, _), by simp [ks6], rfl⟩
  · exact ⟨(t5, _), by simp [ks6], rfl⟩
  · exact ⟨(t6, _), by simp [ks6], rfl⟩
theorem six_in {ns : List Int} {p q r : Int} (g : GoodB ns) (ip : InT ns p) (iq : InT ns q) (ir : InT ns r) : ∀ x ∈ six ns p q r, ∃ a b c, x = [a, b, c] ∧ InT ns a ∧ InT ns b ∧ InT ns c := by
  have bp := bk_in g ip
  have bq := bk_in g iq
  have br := bk_in g ir
  intro x h
  simp only [six, List.mem_cons, List.not_mem_nil, or_false] at h
  rcases h with rfl | rfl | rfl | rfl | rfl | rfl
  · exact ⟨_, _, _, rfl, ip, iq, ir⟩
  · exact ⟨_, _, _, rfl, ir, bq, ip⟩
  · exact ⟨_, _, _, rfl, bp, ir, iq⟩
  · exact ⟨_, _, _, rfl, iq, br, bp⟩
  · exact ⟨_, _, _, rfl, br, ip, bq⟩
  · exact ⟨_, _, _, rfl, bq, bp, br⟩
theorem six_bd {ns : List Int} {p q r : Int} (g : GoodB ns) (ip : InT ns p) (iq : InT ns q) (ir : InT ns r) : ∀ x ∈ six ns p q r, x.length = 3 ∧ TS.Bd 4 x := by
  intro x h
  obtain ⟨a, b, c, rfl, ia, ib, ic⟩ := six_in g ip iq ir x h
  have h4 := g.hi
  refine ⟨rfl, fun m hm => ?_⟩
  simp only [List.mem_cons, List.not_mem_nil, or_false] at hm
  rcases hm with rfl | rfl | rfl
  · exact ⟨ia.1, by have := ia.2; omega⟩
  · exact ⟨ib.1, by have := ib.2; omega⟩
  · exact ⟨ic.1, by have := ic.2; omega⟩
theorem code_inj {B : Int} : ∀ {r q : List Int}, r.length = q.length → TS.Bd B r → TS.Bd B q → TS.code B r = TS.code B q → r = q
  | [], [], _, _, _, _ => rfl
  | [], _ :: _, h, _, _, _ => by cases h
  | _ :: _, [], h, _, _, _ => by cases h
  | d :: r, e :: q, h, b1, b2, c => by
    have hl : r.length = q.length := Nat.succ.inj h
    rcases Int.lt_trichotomy d e with h1 | h1 | h1
    · have := TS.code_lt hl b1.tail b2.tail h1
      omega
    · subst h1
      have n1 : ¬ TS.code B r < TS.code B q := fun z => by have := (TS.code_same (d := d) hl).mpr z; omega
      have n2 : ¬ TS.code B q < TS.code B r := fun z => by have := (TS.code_same (d := d) hl.symm).mpr z; omega
      rw [code_inj hl b1.tail b2.tail (by omega)]
    · have := TS.code_lt hl.symm b2.tail b1.tail h1
      omega
theorem threeB_ints {ns : List Int} {xs : List V} (h : (decide (xs.length = 3) && xs.all (tieB ns)) = true) : ∃ p q r, xs = [.int p, .int q, .int r] ∧ InT ns p ∧ InT ns q ∧ InT ns r := by
  obtain ⟨h1, h2⟩ := Bool.and_eq_true_iff.mp h
  have l3 := of_decide_eq_true h1
  rw [List.all_eq_true] at h2
  obtain ⟨a, b, c, rfl⟩ : ∃ a b c, xs = [a, b, c] := match xs, l3 with | [a, b, c], _ => ⟨a, b, c, rfl⟩
  have one : ∀ y ∈ [a, b, c], ∃ t, y = V.int t ∧ InT ns t := fun y hy => by
    obtain ⟨i, v, e, e2⟩ := tieB_true (h2 y hy)
    exact ⟨_, e, by omega, by have := (List.getElem?_eq_some_iff.mp e2).1; omega⟩
  obtain ⟨p, rfl, ip⟩ := one a (by simp)
  obtain ⟨q, rfl, iq⟩ := one b (by simp)
  obtain ⟨r, rfl, ir⟩ := one c (by simp)
  exact ⟨p, q, r, rfl, ip, iq, ir⟩
theorem bk_of {ns : List Int} {t b : Int} {i : Nat} (ht : InT ns t) (e1 : V.int t = V.int ((i : Nat) : Int)) (e2 : ns[i]? = some b) : bk ns t = b := by
  have e : t = (i : Int) := by injection e1
  subst e
  have q := bk_get ht
  rw [show ((i : Int)).toNat = i from Int.toNat_natCast i, e2] at q
  exact (Option.some.inj q).symm
theorem tie_in {ns : List Int} {t : Int} (ht : InT ns t) : tieB ns (.int t) = true := by
  show (decide (0 ≤ t) && decide (t ≤ ((ns.length : Nat) : Int) - 1)) = true
  rw [decide_eq_true ht.1, decide_eq_true (by have := ht.2; omega)]
  rfl
theorem tie_no {ns : List Int} {t : Int} {A : Prop} (ht : InT ns t) (e : tieB ns (.int t) = false) : A := by
  rw [tie_in ht] at e
  cases e
def TupsAt (H : Hp) (z : Addr) (L : List (List Int)) : Prop := ∃ ps : List Addr, H z = some (.tup (ps.map V.ref)) ∧ ps.length = L.length ∧ ∀ (j : Nat) (a : Addr) (ts : List Int), ps[j]? = some a → L[j]? = some ts → H a = some (.tup (ts.map V.int))
theorem TupsAt.keep {H H' : Hp} {z : Addr} {L : List (List Int)} (h : TupsAt H z L) (S : Same H H') : TupsAt H' z L := by
  obtain ⟨ps, a, b, c⟩ := h
  exact ⟨ps, S _ _ a, b, fun j x ts e1 e2 => S _ _ (c j x ts e1 e2)⟩
theorem same_free {H H' : Hp} {a : Addr} (S : Same H H') (e : H' a = none) : H a = none := by
  cases q : H a with
  | none => rfl
  | some o =>
    have := S _ _ q
    rw [e] at this
    cases this
abbrev s_NoThree_init : Stmt := inClass (top 5) 0
theorem sc_NoThree_init : FnScope ["self", "three"] ["self", "three"] (defScope s_NoThree_init) := ⟨rfl, rfl, rfl, by decide +kernel, rfl, by decide +kernel, by decide +kernel⟩
abbrev s_readings_of : Stmt := top 14
theorem sc_readings_of : FnScope ["ties", "three", "p", "q", "r", "p_back", "q_back", "r_back", "readings"] ["ties", "three"] (defScope s_readings_of) := ⟨rfl, rfl, rfl, by decide +kernel, rfl, by decide +kernel, by decide +kernel⟩
def spReadings (C CT : Addr) : Sp := fun vs H Q E => ∃ (x : Addr) (ns : List Int) (v : V) (s : Sh), vs = [.ref x, v] ∧ TiesAt C H x ns ∧ GoodB ns ∧ Is H v s ∧ Known H (items s) ∧ (threeB ns s = false → Tells H CT "three" v E) ∧
  (∀ p q r, items s = [.int p, .int q, .int r] → InT ns p → InT ns q → InT ns r → ∀ (H' : Hp) (z : Addr) (L : List (List Int)), Same H H' → H z = none → TupsAt H' z L → RdL ns p q r L → Q (.ref z) H')
abbrev s_least_reading : Stmt := top 15
theorem sc_least_reading : FnScope ["ties", "three"] ["ties", "three"] (defScope s_least_reading) := ⟨rfl, rfl, rfl, by decide +kernel, rfl, by decide +kernel, by decide +kernel⟩
def spLeast (C CT : Addr) : Sp := fun vs H Q E => ∃ (x : Addr) (ns : List Int) (v : V) (s : Sh), vs = [.ref x, v] ∧ TiesAt C H x ns ∧ GoodB ns ∧ Is H v s ∧ Known H (items s) ∧ (threeB ns s = false → Tells H CT "three" v E) ∧
  (∀ p q r, items s = [.int p, .int q, .int r] → InT ns p → InT ns q → InT ns r → ∀ (H' : Hp) (z : Addr) (t : List Int) (L : List (List Int)), Same H H' → H' z = some (.tup (t.map V.int)) → RdL ns p q r (t :: L) → Q (.ref z) H')
section
variable {P : Program} {w : World} {K : PySem.W.Frag} {mg : Str → Option Value} {base : Heap}
theorem ok_NoThree_init {f C : Addr} {fd : FuncData} (F : Fun K "__init__" "NoThree.__init__" s_NoThree_init f fd) (o : OexC K C) (no : PySem.W.findIn K (.ref C) "three" = some none) : FnOk P w K mg base CX0 1 f fd ["self", "three"] (spXI C "three") := by
  refine F.ok sc_NoThree_init (fun vs H Q E h => ?_) (fun cdv A outer s H vs Q E hr h => ?_)
  · obtain ⟨x, s, rfl, _⟩ := h
    rfl
  · obtain ⟨a, v, rfl, ha, k⟩ := h
    refine ⟨_, pss_one (ps_ost (pv 0) (pv 1)), ?_⟩
    exact ⟨_, rfl, _, rfl, a, C, rfl, o, no, .inl ⟨ha, k⟩⟩
theorem ok_readings_of {f C CN CT fI fB fT : Addr} {fd fdI fdB fdT : FuncData} (F : Fun K "readings_of" "readings_of" s_readings_of f fd) (T : TiC K C) (nt : mg "tuple" = none) (nso : mg "sorted" = none) (nse : mg "set" = none)
    (GI : Cal P w K mg base CX0 3 "is_three" fI fdI ["ties", "thing"] (spThree C)) (GB : Mt P w K mg base (L2.CX P w) 3 C "back" fB fdB ["self", "tie"] (spBack C CN)) (GT : Ex P w K mg base "NoThree" "three" CT fT fdT ["self", "three"]) :
    FnOk P w K mg base (L2.CX P w) 4 f fd ["ties", "three"] (spReadings C CT) := by
  refine F.okX sc_readings_of (fun vs H Q E h => ?_) (fun cdv A outer s H vs Q E hr h => ?_)
  · obtain ⟨x, ns, v, s, rfl, _⟩ := h
    rfl
  · obtain ⟨x, ns, v, s, rfl, hT, gb, hv, kn, k1, k2⟩ := h
    have hr2 : Room 2 _ := hr.mono (by decide)
    cases s with
    | sc u =>
      refine ⟨_, (pss_cons 
  (ps_if (pt_not (pt_val (pcal GI hr pass0 (pa_cons (pv 0) (pa_cons (pv 1) pa_nil))))) (pss_one 
    (ps_raise rfl (takes_of rfl rfl rfl rfl) (pmk_oex GT.o GT.i GT.t GT.F hr2 GT.b .nil pass0 rfl GT.m (pa_cons (pv 1) pa_nil)))) pss_nil) (pss_cons 
  (ps_asg (pv 1) (pg_tup (by rfl) (pgs_cons (pg_name (i := 2) sc_readings_of.nd rfl (Or.inl rfl)) (pgs_cons (pg_name (i := 3) sc_readings_of.nd rfl (Or.inl rfl)) (pgs_cons (pg_name (i := 4) sc_readings_of.nd rfl (Or.inl rfl)) pgs_nil))))) (pss_cons 
  (ps_set (i := 5) sc_readings_of.nd rfl (Or.inl rfl) (pe_meth (pv 0) T.cl GB.M GB.F hr GB.b .nil passL (pa_cons (pv 2) pa_nil))) (pss_cons 
  (ps_set (i := 6) sc_readings_of.nd rfl (Or.inl rfl) (pe_meth (pv 0) T.cl GB.M GB.F hr GB.b .nil passL (pa_cons (pv 3) pa_nil))) (pss_cons 
  (ps_set (i := 7) sc_readings_of.nd rfl (Or.inl rfl) (pe_meth (pv 0) T.cl GB.M GB.F hr GB.b .nil passL (pa_cons (pv 4) pa_nil))) (pss_cons 
  (ps_set (i := 8) sc_readings_of.nd rfl (Or.inl rfl) (pe_lst (pa_cons (pe_tup (pa_cons (pv 2) (pa_cons (pv 3) (pa_cons (pv 4) pa_nil)))) (pa_cons (pe_tup (pa_cons (pv 4) (pa_cons (pv 6) (pa_cons (pv 2) pa_nil)))) (pa_cons (pe_tup (pa_cons (pv 5) (pa_cons (pv 4) (pa_cons (pv 3) pa_nil)))) (pa_cons (pe_tup (pa_cons (pv 3) (pa_cons (pv 7) (pa_cons (pv 5) pa_nil)))) (pa_cons (pe_tup (pa_cons (pv 7) (pa_cons (pv 2) (pa_cons (pv 6) pa_nil)))) (pa_cons (pe_tup (pa_cons (pv 6) (pa_cons (pv 5) (pa_cons (pv 7) pa_nil)))) pa_nil)))))))) (pss_one 
  (ps_ret (pe_callTy (T := "tuple") (r := rTup K) call_tuple_of (by rfl) nt (by decide +kernel) (pa_cons (pe_callB (cr_sortedT rfl) (by rfl) nso (by decide +kernel) (pa_cons (pe_callTy (cr_setOfT rfl hr.units) (by rfl) nse (by decide +kernel) (pa_cons (pv 8) pa_nil)) pa_nil)) pa_nil)))))))))), ?_⟩
      exact ⟨_, rfl, _, rfl, x, ns, v, .sc u, rfl, hT, hv, kn, fun H1 S1 => ⟨_, rfl, iteT ⟨_, rfl, mkO_of ((k1 rfl).mono S1)⟩⟩⟩
    | dk =>
      refine ⟨_, (pss_cons 
  (ps_if (pt_not (pt_val (pcal GI hr pass0 (pa_cons (pv 0) (pa_cons (pv 1) pa_nil))))) (pss_one 
    (ps_raise rfl (takes_of rfl rfl rfl rfl) (pmk_oex GT.o GT.i GT.t GT.F hr2 GT.b .nil pass0 rfl GT.m (pa_cons (pv 1) pa_nil)))) pss_nil) (pss_cons 
  (ps_asg (pv 1) (pg_tup (by rfl) (pgs_cons (pg_name (i := 2) sc_readings_of.nd rfl (Or.inl rfl)) (pgs_cons (pg_name (i := 3) sc_readings_of.nd rfl (Or.inl rfl)) (pgs_cons (pg_name (i := 4) sc_readings_of.nd rfl (Or.inl rfl)) pgs_nil))))) (pss_cons 
  (ps_set (i := 5) sc_readings_of.nd rfl (Or.inl rfl) (pe_meth (pv 0) T.cl GB.M GB.F hr GB.b .nil passL (pa_cons (pv 2) pa_nil))) (pss_cons 
  (ps_set (i := 6) sc_readings_of.nd rfl (Or.inl rfl) (pe_meth (pv 0) T.cl GB.M GB.F hr GB.b .nil passL (pa_cons (pv 3) pa_nil))) (pss_cons 
  (ps_set (i := 7) sc_readings_of.nd rfl (Or.inl rfl) (pe_meth (pv 0) T.cl GB.M GB.F hr GB.b .nil passL (pa_cons (pv 4) pa_nil))) (pss_cons 
  (ps_set (i := 8) sc_readings_of.nd rfl (Or.inl rfl) (pe_lst (pa_cons (pe_tup (pa_cons (pv 2) (pa_cons (pv 3) (pa_cons (pv 4) pa_nil)))) (pa_cons (pe_tup (pa_cons (pv 4) (pa_cons (pv 6) (pa_cons (pv 2) pa_nil)))) (pa_cons (pe_tup (pa_cons (pv 5) (pa_cons (pv 4) (pa_cons (pv 3) pa_nil)))) (pa_cons (pe_tup (pa_cons (pv 3) (pa_cons (pv 7) (pa_cons (pv 5) pa_nil)))) (pa_cons (pe_tup (pa_cons (pv 7) (pa_cons (pv 2) (pa_cons (pv 6) pa_nil)))) (pa_cons (pe_tup (pa_cons (pv 6) (pa_cons (pv 5) (pa_cons (pv 7) pa_nil)))) pa_nil)))))))) (pss_one 
  (ps_ret (pe_callTy (T := "tuple") (r := rTup K) call_tuple_of (by rfl) nt (by decide +kernel) (pa_cons (pe_callB (cr_sortedT rfl) (by rfl) nso (by decide +kernel) (pa_cons (pe_callTy (cr_setOfT rfl hr.units) (by rfl) nse (by decide +kernel) (pa_cons (pv 8) pa_nil)) pa_nil)) pa_nil)))))))))), ?_⟩
      exact ⟨_, rfl, _, rfl, x, ns, v, .dk, rfl, hT, hv, kn, fun H1 S1 => ⟨_, rfl, iteT ⟨_, rfl, mkO_of ((k1 rfl).mono S1)⟩⟩⟩
    | lst xs =>
      obtain ⟨pp, rfl, hp⟩ := hv
      refine ⟨_, (pss_cons 
  (ps_if (pt_not (pt_val (pcal GI hr pass0 (pa_cons (pv 0) (pa_cons (pv 1) pa_nil))))) (pss_one 
    (ps_raise rfl (takes_of rfl rfl rfl rfl) (pmk_oex GT.o GT.i GT.t GT.F hr2 GT.b .nil pass0 rfl GT.m (pa_cons (pv 1) pa_nil)))) pss_nil) (pss_cons 
  (ps_asg (pv 1) (pg_unl rfl (pgs_cons (pg_name (i := 2) sc_readings_of.nd rfl (Or.inl rfl)) (pgs_cons (pg_name (i := 3) sc_readings_of.nd rfl (Or.inl rfl)) (pgs_cons (pg_name (i := 4) sc_readings_of.nd rfl (Or.inl rfl)) pgs_nil))))) (pss_cons 
  (ps_set (i := 5) sc_readings_of.nd rfl (Or.inl rfl) (pe_meth (pv 0) T.cl GB.M GB.F hr GB.b .nil passL (pa_cons (pv 2) pa_nil))) (pss_cons 
  (ps_set (i := 6) sc_readings_of.nd rfl (Or.inl rfl) (pe_meth (pv 0) T.cl GB.M GB.F hr GB.b .nil passL (pa_cons (pv 3) pa_nil))) (pss_cons 
  (ps_set (i := 7) sc_readings_of.nd rfl (Or.inl rfl) (pe_meth (pv 0) T.cl GB.M GB.F hr GB.b .nil passL (pa_cons (pv 4) pa_nil))) (pss_cons 
  (ps_set (i := 8) sc_readings_of.nd rfl (Or.inl rfl) (pe_lst (pa_cons (pe_tup (pa_cons (pv 2) (pa_cons (pv 3) (pa_cons (pv 4) pa_nil)))) (pa_cons (pe_tup (pa_cons (pv 4) (pa_cons (pv 6) (pa_cons (pv 2) pa_nil)))) (pa_cons (pe_tup (pa_cons (pv 5) (pa_cons (pv 4) (pa_cons (pv 3) pa_nil)))) (pa_cons (pe_tup (pa_cons (pv 3) (pa_cons (pv 7) (pa_cons (pv 5) pa_nil)))) (pa_cons (pe_tup (pa_cons (pv 7) (pa_cons (pv 2) (pa_cons (pv 6) pa_nil)))) (pa_cons (pe_tup (pa_cons (pv 6) (pa_cons (pv 5) (pa_cons (pv 7) pa_nil)))) pa_nil)))))))) (pss_one 
  (ps_ret (pe_callTy (T := "tuple") (r := rTup K) call_tuple_of (by rfl) nt (by decide +kernel) (pa_cons (pe_callB (cr_sortedT rfl) (by rfl) nso (by decide +kernel) (pa_cons (pe_callTy (cr_setOfT rfl hr.units) (by rfl) nse (by decide +kernel) (pa_cons (pv 8) pa_nil)) pa_nil)) pa_nil)))))))))), ?_⟩
      refine ⟨_, rfl, _, rfl, x, ns, _, Sh.lst xs, rfl, hT, ⟨pp, rfl, hp⟩, kn, fun H1 S1 => ⟨_, rfl, ?_⟩⟩
      cases e : threeB ns (.lst xs) with
      | false => exact iteT ⟨_, rfl, mkO_of ((k1 e).mono S1)⟩
      | true =>
        obtain ⟨p, q, r, rfl, ip, iq, ir⟩ := threeB_ints e
        refine iteF ?_
        refine ⟨_, rfl, pp, _, rfl, SqL.of (S1 _ _ hp), rfl, _, _, rfl, _, _, rfl, _, _, rfl, rfl, ?_⟩
        have hT1 := hT.keep S1
        obtain ⟨dx, t, hx, ht⟩ := id hT1
        have nl : (tf t (ns.length : Nat)).lookup ("back" : Str) = none := tf_no _ _ (by decide +kernel) (by decide +kernel)
        refine ⟨_, rfl, x, dx, _, rfl, hx, nl, _, rfl, x, ns, .int p, .sc (.int p), rfl, hT1, ⟨rfl, rfl⟩, fun jp bp e1 e2 => ?_, fun e => tie_no ip e⟩
        obtain rfl := bk_of ip e1 e2
        refine ⟨_, rfl, x, dx, _, rfl, hx, nl, _, rfl, x, ns, .int q, .sc (.int q), rfl, hT1, ⟨rfl, rfl⟩, fun jq bq e1 e2 => ?_, fun e => tie_no iq e⟩
        obtain rfl := bk_of iq e1 e2
        refine ⟨_, rfl, x, dx, _, rfl, hx, nl, _, rfl, x, ns, .int r, .sc (.int r), rfl, hT1, ⟨rfl, rfl⟩, fun jr br e1 e2 => ?_, fun e => tie_no ir e⟩
        obtain rfl := bk_of ir e1 e2
        refine ⟨_, rfl, _, rfl, _, rfl, (by show 3 ≤ sizeLine; decide), fun t1 ht1 => ?_⟩
        have W1 : Same H1 (upd H1 t1 (.tup [.int p, .int q, .int r])) := new_same ht1
        have f1 : (upd H1 t1 (.tup [.int p, .int q, .int r])) t1 = some (.tup [.int p, .int q, .int r]) := upd_same
        generalize upd H1 t1 (.tup [.int p, .int q, .int r]) = K1 at W1 f1
        refine ⟨_, rfl, _, rfl, _, rfl, (by show 3 ≤ sizeLine; decide), fun t2 ht2 => ?_⟩
        have W2 : Same K1 (upd K1 t2 (.tup [.int r, .int (bk ns q), .int p])) := new_same ht2
        have f2 : (upd K1 t2 (.tup [.int r, .int (bk ns q), .int p])) t2 = some (.tup [.int r, .int (bk ns q), .int p]) := upd_same
        generalize upd K1 t2 (.tup [.int r, .int (bk ns q), .int p]) = K2 at W2 f2
        refine ⟨_, rfl, _, rfl, _, rfl, (by show 3 ≤ sizeLine; decide), fun t3 ht3 => ?_⟩
        have W3 : Same K2 (upd K2 t3 (.tup [.int (bk ns p), .int r, .int q])) := new_same ht3
        have f3 : (upd K2 t3 (.tup [.int (bk ns p), .int r, .int q])) t3 = some (.tup [.int (bk ns p), .int r, .int q]) := upd_same
        generalize upd K2 t3 (.tup [.int (bk ns p), .int r, .int q]) = K3 at W3 f3
        refine ⟨_, rfl, _, rfl, _, rfl, (by show 3 ≤ sizeLine; decide), fun t4 ht4 => ?_⟩
        have W4 : Same K3 (upd K3 t4 (.tup [.int q, .int (bk ns r), .int (bk ns p)])) := new_same ht4
        have f4 : (upd K3 t4 (.tup [.int q, .int (bk ns r), .int (bk ns p)])) t4 = some (.tup [.int q, .int (bk ns r), .int (bk ns p)]) := upd_same
        generalize upd K3 t4 (.tup [.int q, .int (bk ns r), .int (bk ns p)]) = K4 at W4 f4
        refine ⟨_, rfl, _, rfl, _, rfl, (by show 3 ≤ sizeLine; decide), fun t5 ht5 => ?_⟩
        have W5 : Same K4 (upd K4 t5 (.tup [.int (bk ns r), .int p, .int (bk ns q)])) := new_same ht5
        have f5 : (upd K4 t5 (.tup [.int (bk ns r), .int p, .int (bk ns q)])) t5 = some (.tup [.int (bk ns r), .int p, .int (bk ns q)]) := upd_same
        generalize upd K4 t5 (.tup [.int (bk ns r), .int p, .int (bk ns q)]) = K5 at W5 f5
        refine ⟨_, rfl, _, rfl, _, rfl, (by show 3 ≤ sizeLine; decide), fun t6 ht6 => ?_⟩
        have W6 : Same K5 (upd K5 t6 (.tup [.int (bk ns q), .int (bk ns p), .int (bk ns r)])) := new_same ht6
        have f6 : (upd K5 t6 (.tup [.int (bk ns q), .int (bk ns p), .int (bk ns r)])) t6 = some (.tup [.int (bk ns q), .int (bk ns p), .int (bk ns r)]) := upd_same
        generalize upd K5 t6 (.tup [.int (bk ns q), .int (bk ns p), .int (bk ns r)]) = K6 at W6 f6
        refine ⟨(by show 6 ≤ sizeLine; decide), fun l hl => ?_⟩
        have W7 : Same K6 (upd K6 l (.lst [.ref t1, .ref t2, .ref t3, .ref t4, .ref t5, .ref t6])) := new_same hl
        have f7 : (upd K6 l (.lst [.ref t1, .ref t2, .ref t3, .ref t4, .ref t5, .ref t6])) l = some (.lst [.ref t1, .ref t2, .ref t3, .ref t4, .ref t5, .ref t6]) := upd_same
        generalize upd K6 l (.lst [.ref t1, .ref t2, .ref t3, .ref t4, .ref t5, .ref t6]) = K7 at W7 f7
        have V6 := W7
        have V5 := W6.trans V6
        have V4 := W5.trans V5
        have V3 := W4.trans V4
        have V2 := W3.trans V3
        have V1 := W2.trans V2
        have S7 : Same H K7 := (S1.trans W1).trans V1
        have hks : ∀ y ∈ ks6 ns p q r t1 t2 t3 t4 t5 t6, K7 y.1 = some (.tup (y.2.map V.int)) := fun y hy => by
          simp only [ks6, List.mem_cons, List.not_mem_nil, or_false] at hy
          rcases hy with rfl | rfl | rfl | rfl | rfl | rfl
          · exact V1 _ _ f1
          · exact V2 _ _ f2
          · exact V3 _ _ f3
          · exact V4 _ _ f4
          · exact V5 _ _ f5
          · exact V6 _ _ f6
        refine ⟨_, rfl, l, ks6 ns p q r t1 t2 t3 t4 t5 t6, rfl, SqL.of f7, fun y hy => SqT.of (hks y hy), (by show 6 < 64; decide), fun a L ha hL1 hL2 => ?_⟩
        have W8 : Same K7 (upd K7 a (SetTO P w a L)) := new_same ha
        have bd : ∀ y ∈ L, y.2.length = 3 ∧ TS.Bd 4 y.2 := fun y hy => six_bd gb ip iq ir _ (ks6_six (hL1 y hy))
        refine ⟨a, L, 3, 4, rfl, upd_same, fun y hy => SqT.of (W8 _ _ (hks y (hL1 y hy))), by decide, bd, fun L' z2 pm nd _ pw hz2 => ?_⟩
        have W9 : Same (upd K7 a (SetTO P w a L)) (upd (upd K7 a (SetTO P w a L)) z2 (.lst (L'.map fun q => V.ref q.1))) := new_same hz2
        have mem' : ∀ y ∈ L', y ∈ L := fun y hy => pm.mem_iff.mp hy
        refine ⟨z2, _, rfl, .inl ⟨SqL.of upd_same, fun z hz => ?_⟩⟩
        have W10 := new_same (o := .tup (L'.map fun q => V.ref q.1)) hz
        refine k2 p q r rfl ip iq ir _ z (L'.map (·.2)) (((S7.trans W8).trans W9).trans W10) (by
            have := same_free W9 hz
            exact same_free S7 (same_free W8 this)) ⟨L'.map (·.1), by rw [upd_same, List.map_map]; rfl, by rw [List.length_map, List.length_map], fun j a' ts e1 e2 => ?_⟩ ⟨?_, fun x => ⟨fun hx => ?_, fun hx => ?_⟩⟩
        · rw [List.getElem?_map] at e1 e2
          cases ej : L'[j]? with
          | none => rw [ej] at e1; cases e1
          | some y =>
            rw [ej] at e1 e2
            obtain rfl := Option.some.inj e1
            obtain rfl := Option.some.inj e2
            have my := mem' y (List.mem_of_getElem? ej)
            exact W10 _ _ (W9 _ _ (W8 _ _ (hks y (hL1 y my))))
        · rw [List.pairwise_map]
          have nd' : L'.Pairwise fun a b => a.2 ≠ b.2 := by
            have : (L'.map (·.2)).Pairwise (· ≠ ·) := nd
            rwa [List.pairwise_map] at this
          refine (pw.and nd').imp_of_mem fun {a b} ma mb h => ?_
          obtain ⟨h1, h2⟩ := h
          rcases Int.lt_or_eq_of_le h1 with h3 | h3
          · exact h3
          · obtain ⟨l1, b1⟩ := bd a (mem' a ma)
            obtain ⟨l2, b2⟩ := bd b (mem' b mb)
            exact absurd (code_inj (by omega) b1 b2 h3) h2
        · obtain ⟨y, hy, rfl⟩ := List.mem_map.mp hx
          exact ks6_six (hL1 y (mem' y hy))
        · obtain ⟨y, hy, rfl⟩ := six_ks6 (t1 := t1) (t2 := t2) (t3 := t3) (t4 := t4) (t5 := t5) (t6 := t6) hx
          obtain ⟨y', hy', e⟩ := List.mem_map.mp (hL2 y hy)
          exact List.mem_map.mpr ⟨y', pm.mem_iff.mpr hy', e⟩
    | tup xs =>
      obtain ⟨pp, rfl, hp⟩ := hv
      refine ⟨_, (pss_cons 
  (ps_if (pt_not (pt_val (pcal GI hr pass0 (pa_cons (pv 0) (pa_cons (pv 1) pa_nil))))) (pss_one 
    (ps_raise rfl (takes_of rfl rfl rfl rfl) (pmk_oex GT.o GT.i GT.t GT.F hr2 GT.b .nil pass0 rfl GT.m (pa_cons (pv 1) pa_nil)))) pss_nil) (pss_cons 
  (ps_asg (pv 1) (pg_tup (by rfl) (pgs_cons (pg_name (i := 2) sc_readings_of.nd rfl (Or.inl rfl)) (pgs_cons (pg_name (i := 3) sc_readings_of.nd rfl (Or.inl rfl)) (pgs_cons (pg_name (i := 4) sc_readings_of.nd rfl (Or.inl rfl)) pgs_nil))))) (pss_cons 
  (ps_set (i := 5) sc_readings_of.nd rfl (Or.inl rfl) (pe_meth (pv 0) T.cl GB.M GB.F hr GB.b .nil passL (pa_cons (pv 2) pa_nil))) (pss_cons 
  (ps_set (i := 6) sc_readings_of.nd rfl (Or.inl rfl) (pe_meth (pv 0) T.cl GB.M GB.F hr GB.b .nil passL (pa_cons (pv 3) pa_nil))) (pss_cons 
  (ps_set (i := 7) sc_readings_of.nd rfl (Or.inl rfl) (pe_meth (pv 0) T.cl GB.M GB.F hr GB.b .nil passL (pa_cons (pv 4) pa_nil))) (pss_cons 
  (ps_set (i := 8) sc_readings_of.nd rfl (Or.inl rfl) (pe_lst (pa_cons (pe_tup (pa_cons (pv 2) (pa_cons (pv 3) (pa_cons (pv 4) pa_nil)))) (pa_cons (pe_tup (pa_cons (pv 4) (pa_cons (pv 6) (pa_cons (pv 2) pa_nil)))) (pa_cons (pe_tup (pa_cons (pv 5) (pa_cons (pv 4) (pa_cons (pv 3) pa_nil)))) (pa_cons (pe_tup (pa_cons (pv 3) (pa_cons (pv 7) (pa_cons (pv 5) pa_nil)))) (pa_cons (pe_tup (pa_cons (pv 7) (pa_cons (pv 2) (pa_cons (pv 6) pa_nil)))) (pa_cons (pe_tup (pa_cons (pv 6) (pa_cons (pv 5) (pa_cons (pv 7) pa_nil)))) pa_nil)))))))) (pss_one 
  (ps_ret (pe_callTy (T := "tuple") (r := rTup K) call_tuple_of (by rfl) nt (by decide +kernel) (pa_cons (pe_callB (cr_sortedT rfl) (by rfl) nso (by decide +kernel) (pa_cons (pe_callTy (cr_setOfT rfl hr.units) (by rfl) nse (by decide +kernel) (pa_cons (pv 8) pa_nil)) pa_nil)) pa_nil)))))))))), ?_⟩
      refine ⟨_, rfl, _, rfl, x, ns, _, Sh.tup xs, rfl, hT, ⟨pp, rfl, hp⟩, kn, fun H1 S1 => ⟨_, rfl, ?_⟩⟩
      cases e : threeB ns (.tup xs) with
      | false => exact iteT ⟨_, rfl, mkO_of ((k1 e).mono S1)⟩
      | true =>
        obtain ⟨p, q, r, rfl, ip, iq, ir⟩ := threeB_ints e
        refine iteF ?_
        refine ⟨_, rfl, pp, _, rfl, SqT.of (S1 _ _ hp), rfl, _, _, rfl, _, _, rfl, _, _, rfl, rfl, ?_⟩
        have hT1 := hT.keep S1
        obtain ⟨dx, t, hx, ht⟩ := id hT1
        have nl : (tf t (ns.length : Nat)).lookup ("back" : Str) = none := tf_no _ _ (by decide +kernel) (by decide +kernel)
        refine ⟨_, rfl, x, dx, _, rfl, hx, nl, _, rfl, x, ns, .int p, .sc (.int p), rfl, hT1, ⟨rfl, rfl⟩, fun jp bp e1 e2 => ?_, fun e => tie_no ip e⟩
        obtain rfl := bk_of ip e1 e2
        refine ⟨_, rfl, x, dx, _, rfl, hx, nl, _, rfl, x, ns, .int q, .sc (.int q), rfl, hT1, ⟨rfl, rfl⟩, fun jq bq e1 e2 => ?_, fun e => tie_no iq e⟩
        obtain rfl := bk_of iq e1 e2
        refine ⟨_, rfl, x, dx, _, rfl, hx, nl, _, rfl, x, ns, .int r, .sc (.int r), rfl, hT1, ⟨rfl, rfl⟩, fun jr br e1 e2 => ?_, fun e => tie_no ir e⟩
        obtain rfl := bk_of ir e1 e2
        refine ⟨_, rfl, _, rfl, _, rfl, (by show 3 ≤ sizeLine; decide), fun t1 ht1 => ?_⟩
        have W1 : Same H1 (upd H1 t1 (.tup [.int p, .int q, .int r])) := new_same ht1
        have f1 : (upd H1 t1 (.tup [.int p, .int q, .int r])) t1 = some (.tup [.int p, .int q, .int r]) := upd_same
        generalize upd H1 t1 (.tup [.int p, .int q, .int r]) = K1 at W1 f1
        refine ⟨_, rfl, _, rfl, _, rfl, (by show 3 ≤ sizeLine; decide), fun t2 ht2 => ?_⟩
        have W2 : Same K1 (upd K1 t2 (.tup [.int r, .int (bk ns q), .int p])) := new_same ht2
        have f2 : (upd K1 t2 (.tup [.int r, .int (bk ns q), .int p])) t2 = some (.tup [.int r, .int (bk ns q), .int p]) := upd_same
        generalize upd K1 t2 (.tup [.int r, .int (bk ns q), .int p]) = K2 at W2 f2
        refine ⟨_, rfl, _, rfl, _, rfl, (by show 3 ≤ sizeLine; decide), fun t3 ht3 => ?_⟩
        have W3 : Same K2 (upd K2 t3 (.tup [.int (bk ns p), .int r, .int q])) := new_same ht3
        have f3 : (upd K2 t3 (.tup [.int (bk ns p), .int r, .int q])) t3 = some (.tup [.int (bk ns p), .int r, .int q]) := upd_same
        generalize upd K2 t3 (.tup [.int (bk ns p), .int r, .int q]) = K3 at W3 f3
        refine ⟨_, rfl, _, rfl, _, rfl, (by show 3 ≤ sizeLine; decide), fun t4 ht4 => ?_⟩
        have W4 : Same K3 (upd K3 t4 (.tup [.int q, .int (bk ns r), .int (bk ns p)])) := new_same ht4
        have f4 : (upd K3 t4 (.tup [.int q, .int (bk ns r), .int (bk ns p)])) t4 = some (.tup [.int q, .int (bk ns r), .int (bk ns p)]) := upd_same
        generalize upd K3 t4 (.tup [.int q, .int (bk ns r), .int (bk ns p)]) = K4 at W4 f4
        refine ⟨_, rfl, _, rfl, _, rfl, (by show 3 ≤ sizeLine; decide), fun t5 ht5 => ?_⟩
        have W5 : Same K4 (upd K4 t5 (.tup [.int (bk ns r), .int p, .int (bk ns q)])) := new_same ht5
        have f5 : (upd K4 t5 (.tup [.int (bk ns r), .int p, .int (bk ns q)])) t5 = some (.tup [.int (bk ns r), .int p, .int (bk ns q)]) := upd_same
        generalize upd K4 t5 (.tup [.int (bk ns r), .int p, .int (bk ns q)]) = K5 at W5 f5
        refine ⟨_, rfl, _, rfl, _, rfl, (by show 3 ≤ sizeLine; decide), fun t6 ht6 => ?_⟩
        have W6 : Same K5 (upd K5 t6 (.tup [.int (bk ns q), .int (bk ns p), .int (bk ns r)])) := new_same ht6
        have f6 : (upd K5 t6 (.tup [.int (bk ns q), .int (bk ns p), .int (bk ns r)])) t6 = some (.tup [.int (bk ns q), .int (bk ns p), .int (bk ns r)]) := upd_same
        generalize upd K5 t6 (.tup [.int (bk ns q), .int (bk ns p), .int (bk ns r)]) = K6 at W6 f6
        refine ⟨(by show 6 ≤ sizeLine; decide), fun l hl => ?_⟩
        have W7 : Same K6 (upd K6 l (.lst [.ref t1, .ref t2, .ref t3, .ref t4, .ref t5, .ref t6])) := new_same hl
        have f7 : (upd K6 l (.lst [.ref t1, .ref t2, .ref t3, .ref t4, .ref t5, .ref t6])) l = some (.lst [.ref t1, .ref t2, .ref t3, .ref t4, .ref t5, .ref t6]) := upd_same
        generalize upd K6 l (.lst [.ref t1, .ref t2, .ref t3, .ref t4, .ref t5, .ref t6]) = K7 at W7 f7
        have V6 := W7
        have V5 := W6.trans V6
        have V4 := W5.trans V5
        have V3 := W4.trans V4
        have V2 := W3.trans V3
        have V1 := W2.trans V2
        have S7 : Same H K7 := (S1.trans W1).trans V1
        have hks : ∀ y ∈ ks6 ns p q r t1 t2 t3 t4 t5 t6, K7 y.1 = some (.tup (y.2.map V.int)) := fun y hy => by
          simp only [ks6, List.mem_cons, List.not_mem_nil, or_false] at hy
          rcases hy with rfl | rfl | rfl | rfl | rfl | rfl
          · exact V1 _ _ f1
          · exact V2 _ _ f2
          · exact V3 _ _ f3
          · exact V4 _ _ f4
          · exact V5 _ _ f5
          · exact V6 _ _ f6
        refine ⟨_, rfl, l, ks6 ns p q r t1 t2 t3 t4 t5 t6, rfl, SqL.of f7, fun y hy => SqT.of (hks y hy), (by show 6 < 64; decide), fun a L ha hL1 hL2 => ?_⟩
        have W8 : Same K7 (upd K7 a (SetTO P w a L)) := new_same ha
        have bd : ∀ y ∈ L, y.2.length = 3 ∧ TS.Bd 4 y.2 := fun y hy => six_bd gb ip iq ir _ (ks6_six (hL1 y hy))
        refine ⟨a, L, 3, 4, rfl, upd_same, fun y hy => SqT.of (W8 _ _ (hks y (hL1 y hy))), by decide, bd, fun L' z2 pm nd _ pw hz2 => ?_⟩
        have W9 : Same (upd K7 a (SetTO P w a L)) (upd (upd K7 a (SetTO P w a L)) z2 (.lst (L'.map fun q => V.ref q.1))) := new_same hz2
        have mem' : ∀ y ∈ L', y ∈ L := fun y hy => pm.mem_iff.mp hy
        refine ⟨z2, _, rfl, .inl ⟨SqL.of upd_same, fun z hz => ?_⟩⟩
        have W10 := new_same (o := .tup (L'.map fun q => V.ref q.1)) hz
        refine k2 p q r rfl ip iq ir _ z (L'.map (·.2)) (((S7.trans W8).trans W9).trans W10) (by
            have := same_free W9 hz
            exact same_free S7 (same_free W8 this)) ⟨L'.map (·.1), by rw [upd_same, List.map_map]; rfl, by rw [List.length_map, List.length_map], fun j a' ts e1 e2 => ?_⟩ ⟨?_, fun x => ⟨fun hx => ?_, fun hx => ?_⟩⟩
        · rw [List.getElem?_map] at e1 e2
          cases ej : L'[j]? with
          | none => rw [ej] at e1; cases e1
          | some y =>
            rw [ej] at e1 e2
            obtain rfl := Option.some.inj e1
            obtain rfl := Option.some.inj e2
            have my := mem' y (List.mem_of_getElem? ej)
            exact W10 _ _ (W9 _ _ (W8 _ _ (hks y (hL1 y my))))
        · rw [List.pairwise_map]
          have nd' : L'.Pairwise fun a b => a.2 ≠ b.2 := by
            have : (L'.map (·.2)).Pairwise (· ≠ ·) := nd
            rwa [List.pairwise_map] at this
          refine (pw.and nd').imp_of_mem fun {a b} ma mb h => ?_
          obtain ⟨h1, h2⟩ := h
          rcases Int.lt_or_eq_of_le h1 with h3 | h3
          · exact h3
          · obtain ⟨l1, b1⟩ := bd a (mem' a ma)
            obtain ⟨l2, b2⟩ := bd b (mem' b mb)
            exact absurd (code_inj (by omega) b1 b2 h3) h2
        · obtain ⟨y, hy, rfl⟩ := List.mem_map.mp hx
          exact ks6_six (hL1 y (mem' y hy))
        · obtain ⟨y, hy, rfl⟩ := six_ks6 (t1 := t1) (t2 := t2) (t3 := t3) (t4 := t4) (t5 := t5) (t6 := t6) hx
          obtain ⟨y', hy', e⟩ := List.mem_map.mp (hL2 y hy)
          exact List.mem_map.mpr ⟨y', pm.mem_iff.mpr hy', e⟩
theorem ok_least_reading {f C CT fR : Addr} {fd fdR : FuncData} (F : Fun K "least_reading" "least_reading" s_least_reading f fd) (GR : Cal P w K mg base (L2.CX P w) 4 "readings_of" fR fdR ["ties", "three"] (spReadings C CT)) :
    FnOk P w K mg base (L2.CX P w) 5 f fd ["ties", "three"] (spLeast C CT) := by
  refine F.okX sc_least_reading (fun vs H Q E h => ?_) (fun cdv A outer s H vs Q E hr h => ?_)
  · obtain ⟨x, ns, v, s, rfl, _⟩ := h
    rfl
  · obtain ⟨x, ns, v, s, rfl, hT, gb, hv, kn, k1, k2⟩ := h
    refine ⟨_, (pss_one 
  (ps_ret (pe_ix ix_tup (pcal GR hr (passes_call (takes_of rfl rfl rfl rfl) (fun _ _ _ _ h => h)) (pa_cons (pv 0) (pa_cons (pv 1) pa_nil))) pe_int (fun _ _ => rfl)))), ?_⟩
    refine ⟨_, rfl, _, rfl, x, ns, v, s, rfl, hT, gb, hv, kn, k1, fun p q r e ip iq ir H1 z L S1 nz TA R => ?_⟩
    cases L with
    | nil =>
      have : [p, q, r] ∈ ([] : List (List Int)) := (R.2 _).mpr (by simp [six])
      cases this
    | cons t L =>
      obtain ⟨ps, e1, e2, e3⟩ := TA
      obtain ⟨a, ps', rfl⟩ : ∃ a ps', ps = a :: ps' := match ps, e2 with | a :: ps', _ => ⟨a, ps', rfl⟩
      exact ⟨_, _, _, _, rfl, rfl, SqT.of e1, at_of (j := 0) (v := .ref a) rfl rfl, k2 p q r e ip iq ir H1 a t L S1 (e3 0 a t rfl rfl) R⟩
end
end J

set_option Elab.async false
set_option linter.all false
set_option maxRecDepth 100000
set_option maxHeartbeats 8000000
namespace J
open PySem PySem.Spec PyProof.Rows L2
/-! ### ranges in comprehensions of several clauses -/
theorem bFor_range {lo : Int} {n : Nat} {g : TG} {vs : List Nat} {σ : L2.St} {H0 : Hp} {body : TB} {Nx : Hp → Prop} (Pv : Nat → Hp → Prop) (h0 : Pv 0 H0)
    (hs : ∀ i H, i < n → Pv i H → g (.int (lo + i)) (wipe σ vs) H fun σ3 H5 => wipe σ3 vs = wipe σ vs ∧ body σ3 H5 (Pv (i + 1))) (hd : ∀ H, Pv n H → Nx H) :
    ∃ W : Nat → Nat → Hp → Prop, (∃ m, W 0 m H0) ∧ ∀ j k H, W j k H →
      ((Itr lo n).stop j H ∧ Nx H) ∨ ((Itr lo n).go j H ∧ ∃ N1 : Hp → Prop, (∀ H', N1 H' → ∃ k', k' < k ∧ W (j + 1) k' H') ∧ ∀ x H', (Itr lo n).yld j H x H' → g x (wipe σ vs) H' fun σ3 H5 => wipe σ3 vs = wipe σ vs ∧ body σ3 H5 N1) := by
  refine ⟨fun j k H => k + j = n ∧ Pv j H, ⟨n, rfl, h0⟩, fun j k H ⟨e, p⟩ => ?_⟩
  rcases Nat.lt_or_ge j n with c | c
  · exact .inr ⟨c, Pv (j + 1), fun H' p' => ⟨k - 1, by omega, by omega, p'⟩, fun x H' ⟨e1, e2⟩ => by subst e1 e2; exact hs j _ c p⟩
  · obtain rfl : j = n := by omega
    exact .inl ⟨c, hd H p⟩
/-! ### all threes -/
def A1 (p q k : Nat) : List (List Int) := (List.range k).map fun r : Nat => [(p : Int), (q : Int), ((r : Nat) : Int)]
def A2 (n p j : Nat) : List (List Int) := (List.range j).flatMap fun q => A1 p q n
def A3 (n i : Nat) : List (List Int) := (List.range i).flatMap fun p => A2 n p n
theorem A1_succ (p q k : Nat) : A1 p q (k + 1) = A1 p q k ++ [[(p : Int), (q : Int), (k : Int)]] := by
  unfold A1
  rw [List.range_succ, List.map_append]
  rfl
theorem A2_succ (n p j : Nat) : A2 n p (j + 1) = A2 n p j ++ A1 p j n := by
  unfold A2
  rw [List.range_succ, List.flatMap_append]
  simp
theorem A3_succ (n i : Nat) : A3 n (i + 1) = A3 n i ++ A2 n i n := by
  unfold A3
  rw [List.range_succ, List.flatMap_append]
  simp
theorem A_len : ∀ n, n ≤ 4 → ∀ i, i < n → ∀ j, j < n → ∀ k, k < n → (A3 n i ++ A2 n i j ++ A1 i j k).length ≤ 64 := by decide +kernel
theorem A3_len : ∀ n, n ≤ 4 → (A3 n n).length ≤ 64 := by decide +kernel
theorem A3_mem {n : Nat} {t : List Int} : t ∈ A3 n n ↔ ∃ p q r : Nat, p < n ∧ q < n ∧ r < n ∧ t = [(p : Int), (q : Int), (r : Int)] := by
  unfold A3 A2 A1
  simp only [List.mem_flatMap, List.mem_map, List.mem_range]
  constructor
  · rintro ⟨p, hp, q, hq, r, hr, rfl⟩
    exact ⟨p, q, r, hp, hq, hr, rfl⟩
  · rintro ⟨p, q, r, hp, hq, hr, rfl⟩
    exact ⟨p, hp, q, hq, r, hr, rfl⟩
/-- tuples that were put one behind another into the list at D -/
structure Gro (H1 H : Hp) (D : Addr) (L : List (List Int)) : Prop where
  S : Same H1 H
  n : H1 D = none
  d : ∃ ps : List Addr, H D = some (.lst (ps.map V.ref)) ∧ ps.length = L.length ∧ ∀ (j : Nat) (a : Addr) (ts : List Int), ps[j]? = some a → L[j]? = some ts → a ≠ D ∧ H a = some (.tup (ts.map V.int))
theorem Gro.nil {H1 : Hp} {D : Addr} (hD : H1 D = none) : Gro H1 (upd H1 D (.lst [])) D [] := ⟨new_same hD, hD, [], upd_same, rfl, fun j a ts e => by simp at e⟩
theorem Gro.snoc {H1 H : Hp} {D z : Addr} {L : List (List Int)} {ts : List Int} (G : Gro H1 H D L) (hz : H z = none) : ∃ acc, (upd H z (.tup (ts.map V.int))) D = some (.lst acc) ∧ acc.length = L.length ∧ Gro H1 (upd (upd H z (.tup (ts.map V.int))) D (.lst (acc ++ [.ref z]))) D (L ++ [ts]) := by
  obtain ⟨ps, e1, e2, e3⟩ := G.d
  have nz : z ≠ D := (ne_of_none e1 hz).symm
  refine ⟨ps.map V.ref, new_same hz _ _ e1, by rw [List.length_map, e2], fun b o e => ?_, G.n, ps ++ [z], by rw [upd_same, List.map_append]; rfl, by rw [List.length_append, List.length_append, e2]; rfl, fun j a us q1 q2 => ?_⟩
  · rw [upd_ne (ne_of_none e G.n), upd_ne (ne_of_none (G.S _ _ e) hz)]
    exact G.S _ _ e
  · rcases Nat.lt_or_ge j ps.length with hj | hj
    · rw [List.getElem?_append_left hj] at q1
      rw [List.getElem?_append_left (by omega)] at q2
      obtain ⟨w1, w2⟩ := e3 j a us q1 q2
      exact ⟨w1, by rw [upd_ne w1, upd_ne (ne_of_none w2 hz)]; exact w2⟩
    · have hj2 : j = ps.length := by
        have := (List.getElem?_eq_some_iff.mp q1).1
        rw [List.length_append] at this
        have l : [z].length = 1 := rfl
        omega
      subst hj2
      rw [List.getElem?_append_right (Nat.le_refl _), Nat.sub_self] at q1
      rw [e2, List.getElem?_append_right (Nat.le_refl _), Nat.sub_self] at q2
      obtain rfl : z = a := Option.some.inj q1
      obtain rfl : ts = us := Option.some.inj q2
      exact ⟨nz, by rw [upd_ne nz, upd_same]⟩
theorem Gro.tup {H1 H : Hp} {D z : Addr} {L : List (List Int)} {acc : List V} (G : Gro H1 H D L) (e : H D = some (.lst acc)) (hz : H z = none) : TupsAt (upd H z (.tup acc)) z L := by
  obtain ⟨ps, e1, e2, e3⟩ := G.d
  rw [e1] at e
  injection e with e
  injection e with e
  refine ⟨ps, by rw [upd_same, e], e2, fun j a ts q1 q2 => ?_⟩
  exact new_same hz _ _ (e3 j a ts q1 q2).2
abbrev s_all_threes : Stmt := top 16
theorem sc_all_threes : FnScope ["ties", "many", "p", "q", "r"] ["ties"] (defScope s_all_threes) := ⟨rfl, rfl, rfl, by decide +kernel, rfl, by decide +kernel, by decide +kernel⟩
def spAll (C : Addr) : Sp := fun vs H Q _ => ∃ (x : Addr) (ns : List Int), vs = [.ref x] ∧ TiesAt C H x ns ∧ GoodB ns ∧ ∀ (H' : Hp) (z : Addr), Same H H' → H z = none → TupsAt H' z (A3 ns.length ns.length) → Q (.ref z) H'
section
variable {P : Program} {w : World} {K : PySem.W.Frag} {mg : Str → Option Value} {base : Heap}
theorem ok_all_threes {f C : Addr} {fd : FuncData} (F : Fun K "all_threes" "all_threes" s_all_threes f fd) (T : TiC K C) (nt : mg "tuple" = none) (nr : mg "range" = none) : FnOk P w K mg base CX0 1 f fd ["ties"] (spAll C) := by
  refine F.ok sc_all_threes (fun vs H Q E h => ?_) (fun cdv A outer s H vs Q E hr h => ?_)
  · obtain ⟨x, ns, rfl, _⟩ := h
    rfl
  · obtain ⟨x, ns, rfl, hT, gb, k⟩ := h
    refine ⟨_, (pss_cons 
  (ps_set (i := 1) sc_all_threes.nd rfl (Or.inr rfl) (pe_fld (pv 0) rfl)) (pss_one 
  (ps_ret (pe_callTy (T := "tuple") (r := rTup K) call_tuple_of (by rfl) nt (by decide +kernel) (pa_cons (pe_lcN (own := [("p", 2), ("q", 3), ("r", 4)]) (g := gName 2) (fs := [3, 4]) rfl sc_all_threes.nd (pi_range1 (by rfl) nr (pa_cons (pv 1) pa_nil)) (blkOk_by (own := [("p", 2), ("q", 3), ("r", 4)]) (N := ["ties", "many", "p", "q", "r"]) (sc := defScope s_all_threes) (by decide +kernel)) (fun _ _ _ _ _ => pg_name (i := 2) sc_all_threes.nd rfl (Or.inl rfl))
    (fun _ _ _ _ _ _ => real_for (g := gName 3) (fs := [4]) (vs := [3, 4]) (fun _ _ z => z) rfl rfl (fun _ => rfl) (pi_range1 (by rfl) nr (pa_cons (pv 1) pa_nil)) (pg_name (i := 3) sc_all_threes.nd rfl (Or.inl rfl)) (by decide)
      (real_for (g := gName 4) (fs := []) (vs := [4]) (fun _ _ z => z) rfl rfl (fun _ => rfl) (pi_range1 (by rfl) nr (pa_cons (pv 1) pa_nil)) (pg_name (i := 4) sc_all_threes.nd rfl (Or.inl rfl)) (by decide)
        (real_elt (fun _ _ z => z) rfl (pe_tup (pa_cons (pv 2) (pa_cons (pv 3) (pa_cons (pv 4) pa_nil))))))) (by decide)) pa_nil))))), ?_⟩
    obtain ⟨dx, t, hx, ht⟩ := id hT
    have h4 := gb.hi
    refine ⟨_, rfl, x, C, dx, _, _, rfl, hx, T.cl, T.nM, tf_many _ _, ?_⟩
    refine ⟨_, rfl, (ns.length : Nat), rfl, by omega, by omega, fun D hD => ?_⟩
    refine bFor_range (lo := 0) (n := ns.length) (body := _) (Nx := _) (fun i H2 => Gro H H2 D (A3 ns.length i)) (Gro.nil hD) ?_ ?_
    · intro i H2 hi G2
      refine ⟨rfl, ?_⟩
      refine ⟨_, rfl, (ns.length : Nat), rfl, by omega, by omega, bFor_range (lo := 0) (n := ns.length) (fun j H3 => Gro H H3 D (A3 ns.length i ++ A2 ns.length i j)) (by unfold A2; simpa using G2) ?_ ?_⟩
      · intro j H3 hj G3
        refine ⟨rfl, ?_⟩
        refine ⟨_, rfl, (ns.length : Nat), rfl, by omega, by omega, bFor_range (lo := 0) (n := ns.length) (fun l H4 => Gro H H4 D (A3 ns.length i ++ A2 ns.length i j ++ A1 i j l)) (by unfold A1; simpa using G3) ?_ ?_⟩
        · intro l H4 hl G4
          refine ⟨rfl, ?_⟩
          have ln := A_len ns.length h4 i hi j hj l hl
          refine ⟨_, rfl, _, rfl, _, rfl, (by show 3 ≤ sizeLine; decide), fun z hz => ?_⟩
          obtain ⟨acc, q1, q2, q3⟩ := G4.snoc (ts := [(i : Int), (j : Int), (l : Int)]) hz
          have e : ([(i : Int), (j : Int), (l : Int)].map V.int) = [V.int (0 + (i : Nat)), V.int (0 + (j : Nat)), V.int (0 + (l : Nat))] := by
            simp
          rw [e] at q1 q3
          refine ⟨acc, q1, small1000 (by omega), ?_⟩
          rw [A1_succ, ← List.append_assoc]
          exact q3
        · intro H4 G4
          show Gro H H4 D _
          rw [A2_succ, ← List.append_assoc]
          exact G4
      · intro H3 G3
        show Gro H H3 D _
        rw [A3_succ]
        exact G3
    · intro H2 G2
      obtain ⟨ps, e1, e2, e3⟩ := G2.d
      refine ⟨D, _, rfl, .inl ⟨SqL.of e1, fun z hz => ?_⟩⟩
      exact k _ z (G2.S.trans (new_same hz)) (same_free G2.S hz) (G2.tup e1 hz)
end
end J

set_option Elab.async false
set_option linter.all false
set_option maxRecDepth 100000
set_option maxHeartbeats 8000000
namespace J
open PySem PySem.Spec PyProof.Rows L2
/-! ### the classes of readings -/
def isL (ns : List Int) : List Int → Bool
  | [p, q, r] => (six ns p q r).all fun x => decide (TS.code 4 [p, q, r] ≤ TS.code 4 x)
  | _ => false
theorem isL_iff {ns : List Int} {p q r : Int} {t : List Int} {L : List (List Int)} (R : RdL ns p q r (t :: L)) : decide ([p, q, r] = t) = isL ns [p, q, r] := by
  obtain ⟨pw, mem⟩ := R
  have low := (List.pairwise_cons.mp pw).1
  have tm : t ∈ six ns p q r := (mem t).mp (List.mem_cons_self ..)
  have me : [p, q, r] ∈ t :: L := (mem _).mpr (by simp [six])
  have lo : ∀ x ∈ six ns p q r, TS.code 4 t ≤ TS.code 4 x := fun x hx => by
    rcases List.mem_cons.mp ((mem x).mpr hx) with e | e
    · rw [e]; exact Int.le_refl _
    · exact Int.le_of_lt (low x e)
  show decide ([p, q, r] = t) = (six ns p q r).all fun x => decide (TS.code 4 [p, q, r] ≤ TS.code 4 x)
  by_cases h : [p, q, r] = t
  · rw [decide_eq_true h, eq_comm, List.all_eq_true]
    exact fun x hx => decide_eq_true (by rw [h]; exact lo x hx)
  · rw [decide_eq_false h, eq_comm, List.all_eq_false]
    refine ⟨t, tm, fun z => ?_⟩
    have z := of_decide_eq_true z
    rcases List.mem_cons.mp me with e | e
    · exact h e
    · have := low _ e
      omega
theorem A3_in {n : Nat} {t : List Int} (h : t ∈ A3 n n) {ns : List Int} (e : ns.length = n) : ∃ p q r, t = [p, q, r] ∧ InT ns p ∧ InT ns q ∧ InT ns r := by
  obtain ⟨p, q, r, hp, hq, hr, rfl⟩ := A3_mem.mp h
  exact ⟨_, _, _, rfl, ⟨by omega, by omega⟩, ⟨by omega, by omega⟩, ⟨by omega, by omega⟩⟩
abbrev s_reading_classes : Stmt := top 17
theorem sc_reading_classes : FnScope ["ties", "three"] ["ties"] (defScope s_reading_classes) := ⟨rfl, rfl, rfl, by decide +kernel, rfl, by decide +kernel, by decide +kernel⟩
def spClasses (C : Addr) : Sp := fun vs H Q _ => ∃ (x : Addr) (ns : List Int), vs = [.ref x] ∧ TiesAt C H x ns ∧ GoodB ns ∧ ∀ (H' : Hp) (z : Addr), Same H H' → H z = none → TupsAt H' z ((A3 ns.length ns.length).filter (isL ns)) → Q (.ref z) H'
theorem ints_known {H : Hp} (ts : List Int) : Known H (ts.map V.int) := fun y hy => by
  obtain ⟨n, _, rfl⟩ := List.mem_map.mp hy
  exact ⟨.sc (.int n), rfl, rfl⟩
abbrev s_Lplain : Stmt := top 24
theorem sc_Lplain : FnScope ["_law_answer", "_law_due", "_law_one", "_law_other"] ["_law_answer", "_law_due"] (defScope s_Lplain) := ⟨rfl, rfl, rfl, by decide +kernel, rfl, by decide +kernel, by decide +kernel⟩
def spNo : Sp := fun _ _ _ _ => False
def spP0 : Sp := fun vs H Q _ => ((∃ n : Int, vs = [.int n, .int n]) ∨ ∃ b : Bool, vs = [.bl b, .bl b]) ∧ Q (.bl true) H
def spP1 : Sp := fun vs H Q _ => ∃ (a b : Addr) (ts : List Int), vs = [.ref a, .ref b] ∧ H a = some (.tup (ts.map V.int)) ∧ H b = some (.tup (ts.map V.int)) ∧ ∀ H', Same H H' → Q (.bl true) H'
def spP2 : Sp := fun vs H Q _ => ∃ (a b : Addr) (L : List (List Int)), vs = [.ref a, .ref b] ∧ TupsAt H a L ∧ TupsAt H b L ∧ ∀ H', Same H H' → Q (.bl true) H'
section
variable {P : Program} {w : World} {K : PySem.W.Frag} {mg : Str → Option Value} {base : Heap}
theorem ok_reading_classes {f C CT fA fL : Addr} {fd fdA fdL : FuncData} (F : Fun K "reading_classes" "reading_classes" s_reading_classes f fd) (nt : mg "tuple" = none)
    (GA : Cal P w K mg base CX0 1 "all_threes" fA fdA ["ties"] (spAll C)) (GL : Cal P w K mg base (L2.CX P w) 5 "least_reading" fL fdL ["ties", "three"] (spLeast C CT)) : FnOk P w K mg base CX0 6 f fd ["ties"] (spClasses C) := by
  refine F.ok sc_reading_classes (fun vs H Q E h => ?_) (fun cdv A outer s H vs Q E hr h => ?_)
  · obtain ⟨x, ns, rfl, _⟩ := h
    rfl
  · obtain ⟨x, ns, rfl, hT, gb, k⟩ := h
    refine ⟨_, (pss_one 
  (ps_ret (pe_callTy (T := "tuple") (r := rTup K) call_tuple_of (by rfl) nt (by decide +kernel) (pa_cons (pe_lc (own := [("three", 1)]) (g := gName 1) (by rfl) sc_reading_classes.nd (pi_tup (pcal GA hr pass0 (pa_cons (pv 0) pa_nil))) (blkOk_by (own := [("three", 1)]) (N := ["ties", "three"]) (sc := defScope s_reading_classes) (by decide +kernel)) (fun _ _ _ _ _ => pg_name (i := 1) sc_reading_classes.nd rfl (Or.inl rfl)) (fun _ _ _ _ _ => pts_one (pt_cmpR (r := rEqD K) (op_eqD hr.units) (pv 1) (pcal GL hr passL (pa_cons (pv 0) (pa_cons (pv 1) pa_nil))) (nomark _))) (fun _ _ _ _ _ => (pv 1))) pa_nil)))), ?_⟩
    refine ⟨_, rfl, x, ns, rfl, hT, gb, fun H1 z S1 nz TA => ?_⟩
    obtain ⟨ps, e1, e2, e3⟩ := TA
    refine ⟨z, rfl, ⟨_, SqT.of e1⟩, fun D hD => ?_⟩
    have a64 := A3_len ns.length gb.hi
    refine lc_tup (K := K) (a := z) (xs := ps.map V.ref) (fun i H2 => Same H1 H2 ∧ H1 D = none ∧ ∃ qs : List Addr, H2 D = some (.lst (qs.map V.ref)) ∧ qs.length = (((A3 ns.length ns.length).take i).filter (isL ns)).length ∧ ∀ (j : Nat) (a : Addr) (ts : List Int), qs[j]? = some a → (((A3 ns.length ns.length).take i).filter (isL ns))[j]? = some ts → H1 a = some (.tup (ts.map V.int)))
      ⟨new_same hD, hD, [], upd_same, rfl, fun j a ts e => by simp at e⟩ (fun i H2 _ ⟨S, _⟩ => SqT.of (S _ _ e1)) ?_ ?_
    · rintro i y H2 hy ⟨S2, D0, qs, eD, ql, hqs⟩
      have hi : i < ps.length := by
        have := (List.getElem?_eq_some_iff.mp hy).1
        rwa [List.length_map] at this
      have ea := List.getElem?_eq_getElem hi
      have et := List.getElem?_eq_getElem (l := A3 ns.length ns.length) (i := i) (by omega)
      obtain rfl : V.ref ps[i] = y := by
        rw [List.getElem?_map, ea] at hy
        exact Option.some.inj hy
      have hat := e3 i _ _ ea et
      have tk : (A3 ns.length ns.length).take (i + 1) = (A3 ns.length ns.length).take i ++ [(A3 ns.length ns.length)[i]] := by
        rw [List.take_add_one, et]
        rfl
      obtain ⟨p, q, r, e, ip, iq, ir⟩ := A3_in (List.mem_of_getElem? et) (ns := ns) rfl
      generalize (A3 ns.length ns.length)[i] = t at et hat tk e
      subst e
      generalize ps[i] = a at ea hat hy
      have fl : (((A3 ns.length ns.length).take i).filter (isL ns)).length ≤ 64 := by
        have h1 := List.length_filter_le (isL ns) ((A3 ns.length ns.length).take i)
        rw [List.length_take] at h1
        omega
      refine ⟨rfl, ?_⟩
      refine ⟨_, rfl, _, rfl, _, rfl, x, ns, .ref a, .tup ([p, q, r].map V.int), rfl, (hT.keep S1).keep S2, gb, ⟨a, rfl, S2 _ _ hat⟩, ints_known _, fun e => ?_, fun p' q' r' e ip' iq' ir' H3 z' t' L' S3 hz' R => ?_⟩
      · have : threeB ns (.tup ([p, q, r].map V.int)) = true := by
          show (decide (3 = 3) && ([V.int p, V.int q, V.int r]).all (tieB ns)) = true
          simp [tie_in ip, tie_in iq, tie_in ir]
        rw [this] at e
        cases e
      · have e' : [V.int p, V.int q, V.int r] = [V.int p', V.int q', V.int r'] := e
        injection e' with h1 e'
        injection e' with h2 e'
        injection e' with h3 _
        injection h1 with h1
        injection h2 with h2
        injection h3 with h3
        subst h1 h2 h3
        have S13 := S2.trans S3
        refine ⟨_, _, .tup (SqT.of (S13 _ _ hat)) (dp_ints _), .tup (SqT.of hz') (dp_ints _), shaped_ti _, shaped_ti _, _, rfl, ?_⟩
        rw [eqv_ti, isL_iff R, tk, List.filter_append]
        cases hb : isL ns [p, q, r] with
        | true =>
          refine iteT ?_
          refine ⟨_, rfl, _, S3 _ _ eD, by rw [List.length_map, ql]; exact small1000 (by omega), fun b o eb => ?_, D0, qs ++ [a], by rw [upd_same, List.map_append]; rfl, ?_, fun j b ts q1 q2 => ?_⟩
          · rw [upd_ne (ne_of_none eb D0)]
            exact S13 _ _ eb
          · rw [List.length_append, List.length_append, ql]
            simp [hb]
          · have fs : [[p, q, r]].filter (isL ns) = [[p, q, r]] := by simp [hb]
            rw [fs] at q2
            rcases Nat.lt_or_ge j qs.length with hj | hj
            · rw [List.getElem?_append_left hj] at q1
              rw [List.getElem?_append_left (by omega)] at q2
              exact hqs j b ts q1 q2
            · have hj2 : j = qs.length := by
                have := (List.getElem?_eq_some_iff.mp q1).1
                rw [List.length_append] at this
                have l : [a].length = 1 := rfl
                omega
              subst hj2
              rw [List.getElem?_append_right (Nat.le_refl _), Nat.sub_self] at q1
              rw [ql, List.getElem?_append_right (Nat.le_refl _), Nat.sub_self] at q2
              obtain rfl : a = b := Option.some.inj q1
              obtain rfl : [p, q, r] = ts := Option.some.inj q2
              exact hat
        | false =>
          refine iteF ?_
          have fs : [[p, q, r]].filter (isL ns) = [] := by simp [hb]
          rw [fs, List.append_nil]
          exact ⟨S13, D0, qs, S3 _ _ eD, ql, hqs⟩
    · rintro H2 ⟨S2, D0, qs, eD, ql, hqs⟩
      have tk : (A3 ns.length ns.length).take (ps.map V.ref).length = A3 ns.length ns.length := by rw [List.length_map, e2, List.take_length]
      rw [tk] at ql hqs
      refine ⟨D, _, rfl, .inl ⟨SqL.of eD, fun z2 hz2 => ?_⟩⟩
      have S3 := S2.trans (new_same (o := .tup (qs.map V.ref)) hz2)
      refine k _ z2 (S1.trans S3) (same_free S1 (same_free S2 hz2)) ⟨qs, upd_same, ql, fun j a ts q1 q2 => ?_⟩
      exact S3 _ _ (hqs j a ts q1 q2)
theorem fn_no {CX : CXT} {k : Nat} {f : Addr} {fd : FuncData} {ps : List Str} : FnOk P w K mg base CX k f fd ps spNo := ⟨fun _ _ _ _ h => h.elim, fun _ _ _ _ _ _ _ _ _ _ _ _ _ h => h.elim⟩
theorem ok_Lplain0 {f fP : Addr} {fd fdP : FuncData} (F : Fun K "_law_plain" "_law_plain" s_Lplain f fd) (nis : mg "isinstance" = none) (nt : mg "tuple" = none) (nl : mg "len" = none) (nz : mg "zip" = none) (nb : mg "bool" = none) (ni : mg "int" = none) (ns : mg "str" = none) (GP : Cal P w K mg base CX0 0 "_law_plain" fP fdP ["_law_answer", "_law_due"] spNo) : FnOk P w K mg base CX0 1 f fd ["_law_answer", "_law_due"] spP0 := by
  refine F.ok sc_Lplain (fun vs H Q E h => ?_) (fun cdv A outer s H vs Q E hr h => ?_)
  · obtain ⟨⟨n, rfl⟩ | ⟨b, rfl⟩, _⟩ := h <;> rfl
  · refine ⟨_, (pss_cons 
  (ps_if (pt_val (pe_callB call_isi (by rfl) nis (by decide +kernel) (pa_cons (pv 1) (pa_cons (pe_bltn (by rfl) nt (by decide +kernel) (v := .ty "tuple") rfl) pa_nil)))) (pss_cons 
    (ps_if (PW.pt (pw_or (pt_not (pt_val (pe_callB call_isi (by rfl) nis (by decide +kernel) (pa_cons (pv 0) (pa_cons (pe_bltn (by rfl) nt (by decide +kernel) (v := .ty "tuple") rfl) pa_nil))))) (pw_or1 (pt_cmpR op_ne (pe_callB call_len_seq (by rfl) nl PySem.boot_len (pa_cons (pv 0) pa_nil)) (pe_callB call_len_seq (by rfl) nl PySem.boot_len (pa_cons (pv 1) pa_nil)) (nomark _))))) (pss_one 
      (ps_ret pe_bl)) pss_nil) (pss_cons 
    (ps_for PassesOwn.never rfl (RZ.pi_zipA (by rfl) nz (pa_cons (pv 0) (pa_cons (pv 1) pa_nil))) (pg_tup (by rfl) (pgs_cons (pg_name (i := 2) sc_Lplain.nd rfl (Or.inl rfl)) (pgs_cons (pg_name (i := 3) sc_Lplain.nd rfl (Or.inl rfl)) pgs_nil))) (pss_one 
      (ps_if (pt_not (pt_val (pcal GP hr pass0 (pa_cons (pv 2) (pa_cons (pv 3) pa_nil))))) (pss_one 
        (ps_ret pe_bl)) pss_nil))) (pss_one 
    (ps_ret pe_bl)))) pss_nil) (pss_cons 
  (ps_if (pt_cmpR op_isN (pv 1) pe_non (nomark _)) (pss_one 
    (ps_ret (pe_cmpR op_isN (pv 0) pe_non (nomark _)))) pss_nil) (pss_cons 
  (ps_if (PW.pt (pw_or (pt_val (pe_callB call_isi (by rfl) nis (by decide +kernel) (pa_cons (pv 1) (pa_cons (pe_bltn (by rfl) nb (by decide +kernel) (v := .ty "bool") rfl) pa_nil)))) (pw_or1 (pt_val (pe_callB call_isi (by rfl) nis (by decide +kernel) (pa_cons (pv 0) (pa_cons (pe_bltn (by rfl) nb (by decide +kernel) (v := .ty "bool") rfl) pa_nil))))))) (pss_one 
    (ps_ret (pe_and (pe_callB call_isi (by rfl) nis (by decide +kernel) (pa_cons (pv 1) (pa_cons (pe_bltn (by rfl) nb (by decide +kernel) (v := .ty "bool") rfl) pa_nil))) (pe_and (pe_callB call_isi (by rfl) nis (by decide +kernel) (pa_cons (pv 0) (pa_cons (pe_bltn (by rfl) nb (by decide +kernel) (v := .ty "bool") rfl) pa_nil))) (pe_one (pe_cmpR op_eq (pv 0) (pv 1) (nomark _))))))) pss_nil) (pss_cons 
  (ps_if (pt_val (pe_callB call_isi (by rfl) nis (by decide +kernel) (pa_cons (pv 1) (pa_cons (pe_bltn (by rfl) ni (by decide +kernel) (v := .ty "int") rfl) pa_nil)))) (pss_one 
    (ps_ret (pe_and (pe_callB call_isi (by rfl) nis (by decide +kernel) (pa_cons (pv 0) (pa_cons (pe_bltn (by rfl) ni (by decide +kernel) (v := .ty "int") rfl) pa_nil))) (pe_one (pe_cmpR op_eq (pv 0) (pv 1) (nomark _)))))) pss_nil) (pss_one 
  (ps_ret (pe_and (pe_callB call_isi (by rfl) nis (by decide +kernel) (pa_cons (pv 0) (pa_cons (pe_bltn (by rfl) ns (by decide +kernel) (v := .ty "str") rfl) pa_nil))) (pe_one (pe_cmpR op_eq (pv 0) (pv 1) (nomark _)))))))))), ?_⟩
    obtain ⟨⟨n, rfl⟩ | ⟨b, rfl⟩, k⟩ := h
    · refine ⟨_, rfl, _, _, _, _, false, rfl, .ty "tuple", .base (.int n), kit_ty kt_int_tuple, _, rfl, iteF ?_⟩
      refine ⟨_, rfl, rfl, _, rfl, if_fa (by simp) ?_⟩
      refine ⟨_, rfl, _, _, _, _, false, rfl, .ty "bool", .base (.int n), kit_ty kt_int_bool, _, rfl, iteF ?_⟩
      refine ⟨_, rfl, _, _, _, _, false, rfl, .ty "bool", .base (.int n), kit_ty kt_int_bool, _, rfl, iteF ?_⟩
      refine ⟨_, rfl, _, _, _, _, true, rfl, .ty "int", .base (.int n), kit_ty kt_int_int, _, rfl, iteT ?_⟩
      refine ⟨_, rfl, _, _, _, _, true, rfl, .ty "int", .base (.int n), kit_ty kt_int_int, _, rfl, if_tr rfl ⟨_, rfl, _, rfl, rfl, ?_⟩⟩
      rw [decide_eq_true rfl]
      exact k
    · refine ⟨_, rfl, _, _, _, _, false, rfl, .ty "tuple", .base (.bl b), kit_ty kt_bool_tuple, _, rfl, iteF ?_⟩
      refine ⟨_, rfl, rfl, _, rfl, if_fa (by simp) ?_⟩
      refine ⟨_, rfl, _, _, _, _, true, rfl, .ty "bool", .base (.bl b), kit_ty kt_bool_bool, _, rfl, iteT ?_⟩
      refine ⟨_, rfl, _, _, _, _, true, rfl, .ty "bool", .base (.bl b), kit_ty kt_bool_bool, _, rfl, if_tr rfl ?_⟩
      refine ⟨_, rfl, _, _, _, _, true, rfl, .ty "bool", .base (.bl b), kit_ty kt_bool_bool, _, rfl, if_tr rfl ⟨_, rfl, _, rfl, rfl, ?_⟩⟩
      rw [decide_eq_true rfl]
      exact k
theorem ok_Lplain1 {f fP : Addr} {fd fdP : FuncData} (F : Fun K "_law_plain" "_law_plain" s_Lplain f fd) (nis : mg "isinstance" = none) (nt : mg "tuple" = none) (nl : mg "len" = none) (nz : mg "zip" = none) (nb : mg "bool" = none) (ni : mg "int" = none) (ns : mg "str" = none) (GP : Cal P w K mg base CX0 1 "_law_plain" fP fdP ["_law_answer", "_law_due"] spP0) : FnOk P w K mg base CX0 2 f fd ["_law_answer", "_law_due"] spP1 := by
  refine F.ok sc_Lplain (fun vs H Q E h => ?_) (fun cdv A outer s H vs Q E hr h => ?_)
  · obtain ⟨a, b, ts, rfl, _⟩ := h
    rfl
  · refine ⟨_, (pss_cons 
  (ps_if (pt_val (pe_callB call_isi (by rfl) nis (by decide +kernel) (pa_cons (pv 1) (pa_cons (pe_bltn (by rfl) nt (by decide +kernel) (v := .ty "tuple") rfl) pa_nil)))) (pss_cons 
    (ps_if (PW.pt (pw_or (pt_not (pt_val (pe_callB call_isi (by rfl) nis (by decide +kernel) (pa_cons (pv 0) (pa_cons (pe_bltn (by rfl) nt (by decide +kernel) (v := .ty "tuple") rfl) pa_nil))))) (pw_or1 (pt_cmpR op_ne (pe_callB call_len_seq (by rfl) nl PySem.boot_len (pa_cons (pv 0) pa_nil)) (pe_callB call_len_seq (by rfl) nl PySem.boot_len (pa_cons (pv 1) pa_nil)) (nomark _))))) (pss_one 
      (ps_ret pe_bl)) pss_nil) (pss_cons 
    (ps_for PassesOwn.never rfl (RZ.pi_zipA (by rfl) nz (pa_cons (pv 0) (pa_cons (pv 1) pa_nil))) (pg_tup (by rfl) (pgs_cons (pg_name (i := 2) sc_Lplain.nd rfl (Or.inl rfl)) (pgs_cons (pg_name (i := 3) sc_Lplain.nd rfl (Or.inl rfl)) pgs_nil))) (pss_one 
      (ps_if (pt_not (pt_val (pcal GP hr pass0 (pa_cons (pv 2) (pa_cons (pv 3) pa_nil))))) (pss_one 
        (ps_ret pe_bl)) pss_nil))) (pss_one 
    (ps_ret pe_bl)))) pss_nil) (pss_cons 
  (ps_if (pt_cmpR op_isN (pv 1) pe_non (nomark _)) (pss_one 
    (ps_ret (pe_cmpR op_isN (pv 0) pe_non (nomark _)))) pss_nil) (pss_cons 
  (ps_if (PW.pt (pw_or (pt_val (pe_callB call_isi (by rfl) nis (by decide +kernel) (pa_cons (pv 1) (pa_cons (pe_bltn (by rfl) nb (by decide +kernel) (v := .ty "bool") rfl) pa_nil)))) (pw_or1 (pt_val (pe_callB call_isi (by rfl) nis (by decide +kernel) (pa_cons (pv 0) (pa_cons (pe_bltn (by rfl) nb (by decide +kernel) (v := .ty "bool") rfl) pa_nil))))))) (pss_one 
    (ps_ret (pe_and (pe_callB call_isi (by rfl) nis (by decide +kernel) (pa_cons (pv 1) (pa_cons (pe_bltn (by rfl) nb (by decide +kernel) (v := .ty "bool") rfl) pa_nil))) (pe_and (pe_callB call_isi (by rfl) nis (by decide +kernel) (pa_cons (pv 0) (pa_cons (pe_bltn (by rfl) nb (by decide +kernel) (v := .ty "bool") rfl) pa_nil))) (pe_one (pe_cmpR op_eq (pv 0) (pv 1) (nomark _))))))) pss_nil) (pss_cons 
  (ps_if (pt_val (pe_callB call_isi (by rfl) nis (by decide +kernel) (pa_cons (pv 1) (pa_cons (pe_bltn (by rfl) ni (by decide +kernel) (v := .ty "int") rfl) pa_nil)))) (pss_one 
    (ps_ret (pe_and (pe_callB call_isi (by rfl) nis (by decide +kernel) (pa_cons (pv 0) (pa_cons (pe_bltn (by rfl) ni (by decide +kernel) (v := .ty "int") rfl) pa_nil))) (pe_one (pe_cmpR op_eq (pv 0) (pv 1) (nomark _)))))) pss_nil) (pss_one 
  (ps_ret (pe_and (pe_callB call_isi (by rfl) nis (by decide +kernel) (pa_cons (pv 0) (pa_cons (pe_bltn (by rfl) ns (by decide +kernel) (v := .ty "str") rfl) pa_nil))) (pe_one (pe_cmpR op_eq (pv 0) (pv 1) (nomark _)))))))))), ?_⟩
    obtain ⟨a, b, ts, rfl, ea, eb, k⟩ := h
    refine ⟨_, rfl, _, _, _, _, true, rfl, .ty "tuple", .base (.tup eb), kit_ty kt_tuple_tuple, _, rfl, iteT ?_⟩
    refine ⟨_, rfl, _, _, _, _, true, rfl, .ty "tuple", .base (.tup ea), kit_ty kt_tuple_tuple, _, rfl, iteF ?_⟩
    refine ⟨_, rfl, a, _, rfl, .inr (SqT.of ea), _, rfl, b, _, rfl, .inr (SqT.of eb), rfl, _, rfl, if_fa (by simp) ?_⟩
    refine ⟨_, rfl, _, rfl, a, b, _, _, rfl, .inr ⟨SqT.of ea, SqT.of eb, RZ.for_zipT (K := K) rfl (fun i σ H' => ∃ v2 v3 : Option V, σ = [some (.ref a), some (.ref b), v2, v3] ∧ Same H H') ⟨none, none, rfl, Same.refl _⟩ (fun i σ H' ⟨_, _, _, S⟩ => ⟨SqT.of (S _ _ ea), SqT.of (S _ _ eb)⟩) ?_ ?_⟩⟩
    · rintro i x y T σ H' hx hy ⟨v2, v3, rfl, S⟩ hT
      rw [hx] at hy
      obtain rfl := Option.some.inj hy
      rw [List.getElem?_map] at hx
      cases et : ts[i]? with
      | none => rw [et] at hx; cases hx
      | some n =>
        rw [et] at hx
        obtain rfl := Option.some.inj hx
        refine ⟨T, _, rfl, SqT.of upd_same, rfl, _, _, rfl, _, _, rfl, rfl, ?_⟩
        exact ⟨_, rfl, _, rfl, .inl ⟨n, rfl⟩, _, rfl, iteF ⟨_, _, rfl, S.trans (new_same hT)⟩⟩
    · rintro σ H' ⟨v2, v3, rfl, S⟩
      exact k _ S
theorem ok_Lplain2 {f fP : Addr} {fd fdP : FuncData} (F : Fun K "_law_plain" "_law_plain" s_Lplain f fd) (nis : mg "isinstance" = none) (nt : mg "tuple" = none) (nl : mg "len" = none) (nz : mg "zip" = none) (nb : mg "bool" = none) (ni : mg "int" = none) (ns : mg "str" = none) (GP : Cal P w K mg base CX0 2 "_law_plain" fP fdP ["_law_answer", "_law_due"] spP1) : FnOk P w K mg base CX0 3 f fd ["_law_answer", "_law_due"] spP2 := by
  refine F.ok sc_Lplain (fun vs H Q E h => ?_) (fun cdv A outer s H vs Q E hr h => ?_)
  · obtain ⟨a, b, L, rfl, _⟩ := h
    rfl
  · refine ⟨_, (pss_cons 
  (ps_if (pt_val (pe_callB call_isi (by rfl) nis (by decide +kernel) (pa_cons (pv 1) (pa_cons (pe_bltn (by rfl) nt (by decide +kernel) (v := .ty "tuple") rfl) pa_nil)))) (pss_cons 
    (ps_if (PW.pt (pw_or (pt_not (pt_val (pe_callB call_isi (by rfl) nis (by decide +kernel) (pa_cons (pv 0) (pa_cons (pe_bltn (by rfl) nt (by decide +kernel) (v := .ty "tuple") rfl) pa_nil))))) (pw_or1 (pt_cmpR op_ne (pe_callB call_len_seq (by rfl) nl PySem.boot_len (pa_cons (pv 0) pa_nil)) (pe_callB call_len_seq (by rfl) nl PySem.boot_len (pa_cons (pv 1) pa_nil)) (nomark _))))) (pss_one 
      (ps_ret pe_bl)) pss_nil) (pss_cons 
    (ps_for PassesOwn.never rfl (RZ.pi_zipA (by rfl) nz (pa_cons (pv 0) (pa_cons (pv 1) pa_nil))) (pg_tup (by rfl) (pgs_cons (pg_name (i := 2) sc_Lplain.nd rfl (Or.inl rfl)) (pgs_cons (pg_name (i := 3) sc_Lplain.nd rfl (Or.inl rfl)) pgs_nil))) (pss_one 
      (ps_if (pt_not (pt_val (pcal GP hr pass0 (pa_cons (pv 2) (pa_cons (pv 3) pa_nil))))) (pss_one 
        (ps_ret pe_bl)) pss_nil))) (pss_one 
    (ps_ret pe_bl)))) pss_nil) (pss_cons 
  (ps_if (pt_cmpR op_isN (pv 1) pe_non (nomark _)) (pss_one 
    (ps_ret (pe_cmpR op_isN (pv 0) pe_non (nomark _)))) pss_nil) (pss_cons 
  (ps_if (PW.pt (pw_or (pt_val (pe_callB call_isi (by rfl) nis (by decide +kernel) (pa_cons (pv 1) (pa_cons (pe_bltn (by rfl) nb (by decide +kernel) (v := .ty "bool") rfl) pa_nil)))) (pw_or1 (pt_val (pe_callB call_isi (by rfl) nis (by decide +kernel) (pa_cons (pv 0) (pa_cons (pe_bltn (by rfl) nb (by decide +kernel) (v := .ty "bool") rfl) pa_nil))))))) (pss_one 
    (ps_ret (pe_and (pe_callB call_isi (by rfl) nis (by decide +kernel) (pa_cons (pv 1) (pa_cons (pe_bltn (by rfl) nb (by decide +kernel) (v := .ty "bool") rfl) pa_nil))) (pe_and (pe_callB call_isi (by rfl) nis (by decide +kernel) (pa_cons (pv 0) (pa_cons (pe_bltn (by rfl) nb (by decide +kernel) (v := .ty "bool") rfl) pa_nil))) (pe_one (pe_cmpR op_eq (pv 0) (pv 1) (nomark _))))))) pss_nil) (pss_cons 
  (ps_if (pt_val (pe_callB call_isi (by rfl) nis (by decide +kernel) (pa_cons (pv 1) (pa_cons (pe_bltn (by rfl) ni (by decide +kernel) (v := .ty "int") rfl) pa_nil)))) (pss_one 
    (ps_ret (pe_and (pe_callB call_isi (by rfl) nis (by decide +kernel) (pa_cons (pv 0) (pa_cons (pe_bltn (by rfl) ni (by decide +kernel) (v := .ty "int") rfl) pa_nil))) (pe_one (pe_cmpR op_eq (pv 0) (pv 1) (nomark _)))))) pss_nil) (pss_one 
  (ps_ret (pe_and (pe_callB call_isi (by rfl) nis (by decide +kernel) (pa_cons (pv 0) (pa_cons (pe_bltn (by rfl) ns (by decide +kernel) (v := .ty "str") rfl) pa_nil))) (pe_one (pe_cmpR op_eq (pv 0) (pv 1) (nomark _)))))))))), ?_⟩
    obtain ⟨a, b, L, rfl, ⟨ps, ea, la, ha⟩, ⟨qs, eb, lb, hb⟩, k⟩ := h
    have ll : (ps.map V.ref).length = (qs.map V.ref).length := by rw [List.length_map, List.length_map, la, lb]
    refine ⟨_, rfl, _, _, _, _, true, rfl, .ty "tuple", .base (.tup eb), kit_ty kt_tuple_tuple, _, rfl, iteT ?_⟩
    refine ⟨_, rfl, _, _, _, _, true, rfl, .ty "tuple", .base (.tup ea), kit_ty kt_tuple_tuple, _, rfl, iteF ?_⟩
    refine ⟨_, rfl, a, _, rfl, .inr (SqT.of ea), _, rfl, b, _, rfl, .inr (SqT.of eb), rfl, _, rfl, if_fa (by rw [ll]; simp) ?_⟩
    refine ⟨_, rfl, _, rfl, a, b, _, _, rfl, .inr ⟨SqT.of ea, SqT.of eb, RZ.for_zipT (K := K) ll (fun i σ H' => ∃ v2 v3 : Option V, σ = [some (.ref a), some (.ref b), v2, v3] ∧ Same H H') ⟨none, none, rfl, Same.refl _⟩ (fun i σ H' ⟨_, _, _, S⟩ => ⟨SqT.of (S _ _ ea), SqT.of (S _ _ eb)⟩) ?_ ?_⟩⟩
    · rintro i x y T σ H' hx hy ⟨v2, v3, rfl, S⟩ hT
      rw [List.getElem?_map] at hx hy
      have hi : i < ps.length := by
        cases e : ps[i]? with
        | none => rw [e] at hx; cases hx
        | some _ => exact (List.getElem?_eq_some_iff.mp e).1
      have e1 := List.getElem?_eq_getElem hi
      have e2 := List.getElem?_eq_getElem (l := qs) (i := i) (by omega)
      have e3 := List.getElem?_eq_getElem (l := L) (i := i) (by omega)
      rw [e1] at hx
      rw [e2] at hy
      obtain rfl := Option.some.inj hx
      obtain rfl := Option.some.inj hy
      have S' := S.trans (new_same (o := .tup [.ref ps[i], .ref qs[i]]) hT)
      refine ⟨T, _, rfl, SqT.of upd_same, rfl, _, _, rfl, _, _, rfl, rfl, ?_⟩
      exact ⟨_, rfl, _, rfl, _, _, L[i], rfl, S' _ _ (ha i _ _ e1 e3), S' _ _ (hb i _ _ e2 e3), fun H2 S2 => ⟨_, rfl, iteF ⟨_, _, rfl, S'.trans S2⟩⟩⟩
    · rintro σ H' ⟨v2, v3, rfl, S⟩
      exact k _ S
end
end J

set_option Elab.async false
set_option linter.all false
set_option maxRecDepth 100000
set_option maxHeartbeats 8000000
namespace J
open PySem PySem.Spec PyProof.Rows L2
abbrev s_Lpick : Stmt := top 22
theorem sc_Lpick : FnScope ["_law_hand_here", "_law_things"] ["_law_hand_here", "_law_things"] (defScope s_Lpick) := ⟨rfl, rfl, rfl, by decide +kernel, rfl, by decide +kernel, by decide +kernel⟩
def spPick : Sp := fun vs H Q _ => ∃ (h q l : Addr) (xs : List V), vs = [.ref h, .ref l] ∧ Hand H h q ∧ l ≠ h ∧ H l = some (.lst xs) ∧ 0 < xs.length ∧ xs.length ≤ 1000 ∧ ∀ (H' : Hp) (y : V), y ∈ xs → But h H H' → Hand H' h q → Q y H'

def addAll (L : List (List Int)) : List (List Int) → List (List Int)
  | [] => L
  | t :: ts => addAll (if t ∈ L then L else L ++ [t]) ts
theorem addAll_snoc : ∀ {ts : List (List Int)} {L : List (List Int)} {t : List Int}, addAll L (ts ++ [t]) = if t ∈ addAll L ts then addAll L ts else addAll L ts ++ [t]
  | [], L, t => rfl
  | x :: ts, L, t => addAll_snoc (ts := ts)
theorem addAll_len : ∀ {ts L : List (List Int)}, (addAll L ts).length ≤ L.length + ts.length
  | [], L => by simp [addAll]
  | t :: ts, L => by
    have h := addAll_len (ts := ts) (L := if t ∈ L then L else L ++ [t])
    show (addAll (if t ∈ L then L else L ++ [t]) ts).length ≤ _
    rw [List.length_cons]
    split at h
    · rename_i c; rw [if_pos c]; omega
    · rename_i c; rw [if_neg c]; rw [List.length_append] at h; simp at h; omega
theorem addAll_mem : ∀ {ts L : List (List Int)} {x : List Int}, x ∈ addAll L ts ↔ x ∈ L ∨ x ∈ ts
  | [], L, x => by simp [addAll]
  | t :: ts, L, x => by
    show x ∈ addAll (if t ∈ L then L else L ++ [t]) ts ↔ _
    rw [addAll_mem, List.mem_cons]
    by_cases c : t ∈ L
    · rw [if_pos c]
      constructor
      · rintro (h | h) <;> simp [h]
      · rintro (h | h | h)
        · exact .inl h
        · exact .inl (h ▸ c)
        · exact .inr h
    · rw [if_neg c, List.mem_append, List.mem_singleton, or_assoc]
theorem addAll_nodup : ∀ {ts L : List (List Int)}, L.Nodup → (addAll L ts).Nodup
  | [], L, h => h
  | t :: ts, L, h => by
    show (addAll (if t ∈ L then L else L ++ [t]) ts).Nodup
    refine addAll_nodup ?_
    by_cases c : t ∈ L
    · rw [if_pos c]; exact h
    · rw [if_neg c, List.nodup_append]
      exact ⟨h, by simp, fun a ha b hb => by rw [List.mem_singleton] at hb; subst hb; exact fun e => c (e ▸ ha)⟩
theorem units65 {k : Nat} {A : Around} (r : Room k A) : A.units + 65 < cLine := by have := r.un; omega
theorem perm_map_inv {α β : Type} {f : α → β} : ∀ {ys ws : List β}, ys.Perm ws → ∀ {zs : List α}, ws = zs.map f → ∃ zs' : List α, zs'.Perm zs ∧ ys = zs'.map f := by
  intro ys ws h
  induction h with
  | nil => intro zs e; exact ⟨[], by rw [List.eq_nil_of_map_eq_nil e.symm], rfl⟩
  | cons x h ih =>
    intro zs e
    cases zs with
    | nil => cases e
    | cons z zs =>
      rw [List.map_cons] at e
      injection e with e1 e2
      obtain ⟨zs', p, q⟩ := ih e2
      exact ⟨z :: zs', p.cons z, by rw [List.map_cons, e1, q]⟩
  | swap x y l =>
    intro zs e
    match zs, e with
    | a :: b :: r, e =>
      rw [List.map_cons, List.map_cons] at e
      injection e with e1 e2
      injection e2 with e2 e3
      exact ⟨b :: a :: r, List.Perm.swap a b r, by rw [List.map_cons, List.map_cons, e1, e2, e3]⟩
  | trans h1 h2 ih1 ih2 =>
    intro zs e
    obtain ⟨zs', p, q⟩ := ih2 e
    obtain ⟨zs2, p2, q2⟩ := ih1 q
    exact ⟨zs2, p2.trans p, q2⟩
theorem Gro.keep {H1 H H' : Hp} {D : Addr} {L : List (List Int)} (G : Gro H1 H D L) (S : Same H H') : Gro H1 H' D L := by
  obtain ⟨ps, e1, e2, e3⟩ := G.d
  exact ⟨G.S.trans S, G.n, ps, S _ _ e1, e2, fun j a ts q1 q2 => ⟨(e3 j a ts q1 q2).1, S _ _ (e3 j a ts q1 q2).2⟩⟩
theorem Gro.app {H1 H : Hp} {D z : Addr} {L : List (List Int)} {ts : List Int} (G : Gro H1 H D L) (ez : H z = some (.tup (ts.map V.int))) : ∃ acc, H D = some (.lst acc) ∧ acc.length = L.length ∧ Gro H1 (upd H D (.lst (acc ++ [.ref z]))) D (L ++ [ts]) := by
  obtain ⟨ps, e1, e2, e3⟩ := G.d
  have nz : z ≠ D := ne_of ez e1 (by intro z; cases z)
  refine ⟨ps.map V.ref, e1, by rw [List.length_map, e2], fun b o e => ?_, G.n, ps ++ [z], by rw [upd_same, List.map_append]; rfl, by rw [List.length_append, List.length_append, e2]; rfl, fun j a us q1 q2 => ?_⟩
  · rw [upd_ne (ne_of_none e G.n)]
    exact G.S _ _ e
  · rcases Nat.lt_or_ge j ps.length with hj | hj
    · rw [List.getElem?_append_left hj] at q1
      rw [List.getElem?_append_left (by omega)] at q2
      obtain ⟨w1, w2⟩ := e3 j a us q1 q2
      exact ⟨w1, by rw [upd_ne w1]; exact w2⟩
    · have hj2 : j = ps.length := by
        have := (List.getElem?_eq_some_iff.mp q1).1
        rw [List.length_append] at this
        have l : [z].length = 1 := rfl
        omega
      subst hj2
      rw [List.getElem?_append_right (Nat.le_refl _), Nat.sub_self] at q1
      rw [e2, List.getElem?_append_right (Nat.le_refl _), Nat.sub_self] at q2
      obtain rfl : z = a := Option.some.inj q1
      obtain rfl : ts = us := Option.some.inj q2
      exact ⟨nz, by rw [upd_ne nz]; exact ez⟩
/-- lists of tuples as data -/
def tupsD (L : List (List Int)) : List PyData := L.map fun ts => .tuple (ts.map PyData.int)
theorem lay_tupsD : ∀ L : List (List Int), PyData.canLayAll0 (tupsD L) = true ∧ PyData.depthAll (tupsD L) ≤ 2
  | [] => by simp [tupsD, PyData.canLayAll0, PyData.depthAll]
  | t :: ts => by
    obtain ⟨a, b⟩ := lay_tupsD ts
    have h1 := ints_lay t
    have h2 := ints_depth t
    refine ⟨?_, ?_⟩
    · show (PyData.canLay0 (.tuple (t.map PyData.int)) && PyData.canLayAll0 (tupsD ts)) = true
      rw [a, Bool.and_true]
      simp only [PyData.canLay0]
      exact h1
    · show max (PyData.depth (.tuple (t.map PyData.int))) (PyData.depthAll (tupsD ts)) ≤ 2
      simp only [PyData.depth]
      omega
theorem shaped_tupsD (L : List (List Int)) : SeqAt.shaped (.list (tupsD L)) = true := by
  obtain ⟨a, b⟩ := lay_tupsD L
  show (PyData.canLay0 (.list (tupsD L)) && decide (PyData.depth (.list (tupsD L)) ≤ 64)) = true
  rw [Bool.and_eq_true]
  refine ⟨by simp only [PyData.canLay0]; exact a, decide_eq_true ?_⟩
  simp only [PyData.depth]
  omega
theorem dp_tupsD {K : PySem.W.Frag} {H : Hp} : ∀ {ps : List Addr} {L : List (List Int)}, ps.length = L.length → (∀ (j : Nat) (a : Addr) (ts : List Int), ps[j]? = some a → L[j]? = some ts → H a = some (.tup (ts.map V.int))) → DpAll K H (ps.map V.ref) (tupsD L)
  | [], [], _, _ => .nil
  | [], _ :: _, h, _ => by cases h
  | _ :: _, [], h, _ => by cases h
  | p :: ps, t :: ts, h, f => .cons (.tup (SqT.of (f 0 p t rfl rfl)) (dp_ints t)) (dp_tupsD (Nat.succ.inj h) fun j a b e1 e2 => f (j + 1) a b (by simpa using e1) (by simpa using e2))
theorem Gro.data {K : PySem.W.Frag} {H1 H : Hp} {D : Addr} {L : List (List Int)} (G : Gro H1 H D L) : Dp K H (.ref D) (.list (tupsD L)) ∧ SeqAt.shaped (.list (tupsD L)) = true := by
  obtain ⟨ps, e1, e2, e3⟩ := G.d
  exact ⟨.lst (SqL.of e1) (dp_tupsD e2 fun j a ts q1 q2 => (e3 j a ts q1 q2).2), shaped_tupsD L⟩
theorem any_tup {t : List Int} : ∀ {L : List (List Int)}, ((tupsD L).any fun z => PyData.eqv z (.tuple (t.map PyData.int))) = decide (t ∈ L)
  | [] => by simp [tupsD]
  | u :: L => by
    have ih := any_tup (t := t) (L := L)
    show (PyData.eqv (.tuple (u.map PyData.int)) (.tuple (t.map PyData.int)) || (tupsD L).any fun z => PyData.eqv z (.tuple (t.map PyData.int))) = _
    rw [eqv_ti, ih]
    by_cases h : u = t
    · simp [h]
    · have h' : ¬ t = u := fun e => h e.symm
      simp [h, h']
def LstsAt (H : Hp) (z : Addr) (L : List (List Int)) : Prop := ∃ ps : List Addr, H z = some (.lst (ps.map V.ref)) ∧ ps.length = L.length ∧ ∀ (j : Nat) (a : Addr) (ts : List Int), ps[j]? = some a → L[j]? = some ts → H a = some (.tup (ts.map V.int))
theorem LstsAt.keep {H H' : Hp} {z : Addr} {L : List (List Int)} (h : LstsAt H z L) (S : Same H H') : LstsAt H' z L := by
  obtain ⟨ps, a, b, c⟩ := h
  exact ⟨ps, S _ _ a, b, fun j x ts e1 e2 => S _ _ (c j x ts e1 e2)⟩
abbrev s_Lshape : Stmt := top 25
theorem sc_Lshape : FnScope ["_law_hand_here", "_law_row"] ["_law_hand_here", "_law_row"] (defScope s_Lshape) := ⟨rfl, rfl, rfl, by decide +kernel, rfl, by decide +kernel, by decide +kernel⟩
def spShape : Sp := fun vs H Q _ => ∃ (h q t : Addr) (ts : List Int), vs = [.ref h, .ref t] ∧ Hand H h q ∧ H t = some (.tup (ts.map V.int)) ∧ ∀ (H' : Hp) (z : Addr) (s : Sh), But h H H' → Hand H' h q → Is H' (.ref z) s → items s = ts.map V.int → (s.isL || s.isT) = true → z ≠ h → Q (.ref z) H'
abbrev s_Lshown : Stmt := top 26
theorem sc_Lshown : FnScope ["_law_backs_here", "_law_p", "_law_q", "_law_r", "_law_table", "_law_found", "_law_x", "_law_y", "_law_z", "_law_three"] ["_law_backs_here", "_law_p", "_law_q", "_law_r"] (defScope s_Lshown) := ⟨rfl, rfl, rfl, by decide +kernel, rfl, by decide +kernel, by decide +kernel⟩
def spShown : Sp := fun vs H Q _ => ∃ (b : Addr) (ns : List Int) (p q r : Int), vs = [.ref b, .int p, .int q, .int r] ∧ H b = some (.lst (ns.map V.int)) ∧ GoodB ns ∧ InT ns p ∧ InT ns q ∧ InT ns r ∧ ∀ (H' : Hp) (z : Addr) (L : List (List Int)), Same H H' → H z = none → LstsAt H' z L → RdL ns p q r L → Q (.ref z) H'
section
variable {P : Program} {w : World} {K : PySem.W.Frag} {mg : Str → Option Value} {base : Heap}
theorem ok_Lpick {f fD : Addr} {fd fdD : FuncData} (F : Fun K "_law_pick" "_law_pick" s_Lpick f fd) (nl : mg "len" = none) (GD : Cal P w K mg base CX0 2 "_law_draw" fD fdD ["_law_hand_here", "_law_many"] spDraw) : FnOk P w K mg base CX0 3 f fd ["_law_hand_here", "_law_things"] spPick := by
  refine F.ok sc_Lpick (fun vs H Q E h => ?_) (fun cdv A outer s H vs Q E hr h => ?_)
  · obtain ⟨h, q, l, xs, rfl, _⟩ := h
    rfl
  · obtain ⟨h, q, l, xs, rfl, hh, nlh, el, g0, g1, k⟩ := h
    refine ⟨_, (pss_one (ps_ret (pe_ix ix_list (pv 1) (pcal GD hr pass0 (pa_cons (pv 0) (pa_cons (pe_callB call_len_seq (by rfl) nl PySem.boot_len (pa_cons (pv 1) pa_nil)) pa_nil))) (fun _ _ => rfl)))), ?_⟩
    refine ⟨_, rfl, _, rfl, _, rfl, l, xs, rfl, .inl (SqL.of el), h, q, _, rfl, by omega, by omega, hh, fun v H1 v0 v1 b1 h1 => ?_⟩
    have hv : v.toNat < xs.length := by omega
    exact ⟨l, xs, v, xs[v.toNat], rfl, rfl, SqL.of (b1 _ _ nlh el), at_of (j := v.toNat) (by omega) (List.getElem?_eq_getElem hv), k H1 _ (List.getElem_mem hv) b1 h1⟩

theorem ok_Lshape {f fD : Addr} {fd fdD : FuncData} (F : Fun K "_law_shape" "_law_shape" s_Lshape f fd) (nli : mg "list" = none) (nt : mg "tuple" = none) (GD : Cal P w K mg base CX0 2 "_law_draw" fD fdD ["_law_hand_here", "_law_many"] spDraw) : FnOk P w K mg base CX0 3 f fd ["_law_hand_here", "_law_row"] spShape := by
  refine F.ok sc_Lshape (fun vs H Q E h => ?_) (fun cdv A outer s H vs Q E hr h => ?_)
  · obtain ⟨h, q, t, ts, rfl, _⟩ := h
    rfl
  · obtain ⟨h, q, t, ts, rfl, hh, et, k⟩ := h
    refine ⟨_, (pss_cons 
  (ps_if (pt_cmpR op_eq (pcal GD hr pass0 (pa_cons (pv 0) (pa_cons pe_int pa_nil))) pe_int (nomark _)) (pss_one 
    (ps_ret (pe_callTy (T := "list") (r := rLst K) call_list_of (by rfl) nli (by decide +kernel) (pa_cons (pv 1) pa_nil)))) pss_nil) (pss_one 
  (ps_ret (pe_callTy (T := "tuple") (r := rTup K) call_tuple_of (by rfl) nt (by decide +kernel) (pa_cons (pv 1) pa_nil))))), ?_⟩
    obtain ⟨cs, i, r, u, eh, _⟩ := id hh
    have nth : t ≠ h := ne_of et eh (by intro z; cases z)
    refine ⟨_, rfl, h, q, 2, rfl, by decide, by decide, hh, fun v H1 v0 v2 b1 h1 => ⟨rfl, _, rfl, ?_⟩⟩
    have et1 := b1 _ _ nth et
    refine ifD (fun c => ?_) (fun c => ?_)
    · refine ⟨_, rfl, t, _, rfl, .inr (SqT.of et1), fun z hz => ?_⟩
      exact k _ z (.lst (ts.map V.int)) (b1.trans (But.new hz)) (h1.new hz) ⟨z, rfl, upd_same⟩ rfl rfl (fun e => by
        obtain ⟨_, _, _, _, e1, _⟩ := h1
        rw [e] at hz
        rw [hz] at e1
        cases e1)
    · exact ⟨_, rfl, t, _, rfl, .inr ⟨SqT.of et1, k _ t (.tup (ts.map V.int)) b1 h1 ⟨t, rfl, et1⟩ rfl rfl nth⟩⟩
theorem ok_Lshown {f : Addr} {fd : FuncData} (F : Fun K "_law_shown" "_law_shown" s_Lshown f fd) (nso : mg "sorted" = none) : FnOk P w K mg base CX0 1 f fd ["_law_backs_here", "_law_p", "_law_q", "_law_r"] spShown := by
  refine F.ok sc_Lshown (fun vs H Q E h => ?_) (fun cdv A outer s H vs Q E hr h => ?_)
  · obtain ⟨b, ns, p, q, r, rfl, _⟩ := h
    rfl
  · obtain ⟨b, ns, p, q, r, rfl, eb, gb, ip, iq, ir, k⟩ := h
    have un : A.units + 100 < cLine → True := fun _ => trivial
    refine ⟨_, (pss_cons 
  (ps_set (i := 4) sc_Lshown.nd rfl (Or.inl rfl) (pe_lst (pa_cons (pe_lst (pa_cons (pe_un un_neg pe_int) (pa_cons (pv 1) (pa_cons (pv 3) pa_nil)))) (pa_cons (pe_lst (pa_cons (pe_ix ix_list (pv 0) (pv 1) (fun _ _ => rfl)) (pa_cons (pe_un un_neg pe_int) (pa_cons (pv 2) pa_nil)))) (pa_cons (pe_lst (pa_cons (pe_ix ix_list (pv 0) (pv 3) (fun _ _ => rfl)) (pa_cons (pe_ix ix_list (pv 0) (pv 2) (fun _ _ => rfl)) (pa_cons (pe_un un_neg pe_int) pa_nil)))) pa_nil))))) (pss_cons 
  (ps_set (i := 5) sc_Lshown.nd rfl (Or.inl rfl) (pe_lst pa_nil)) (pss_cons 
  (ps_for PassesOwn.never rfl (pi_list (pe_lst (pa_cons (pe_tup (pa_cons pe_int (pa_cons pe_int (pa_cons pe_int pa_nil)))) (pa_cons (pe_tup (pa_cons pe_int (pa_cons pe_int (pa_cons pe_int pa_nil)))) (pa_cons (pe_tup (pa_cons pe_int (pa_cons pe_int (pa_cons pe_int pa_nil)))) (pa_cons (pe_tup (pa_cons pe_int (pa_cons pe_int (pa_cons pe_int pa_nil)))) (pa_cons (pe_tup (pa_cons pe_int (pa_cons pe_int (pa_cons pe_int pa_nil)))) (pa_cons (pe_tup (pa_cons pe_int (pa_cons pe_int (pa_cons pe_int pa_nil)))) pa_nil)))))))) (pg_tup (by rfl) (pgs_cons (pg_name (i := 6) sc_Lshown.nd rfl (Or.inl rfl)) (pgs_cons (pg_name (i := 7) sc_Lshown.nd rfl (Or.inl rfl)) (pgs_cons (pg_name (i := 8) sc_Lshown.nd rfl (Or.inl rfl)) pgs_nil)))) (pss_cons 
    (ps_set (i := 9) sc_Lshown.nd rfl (Or.inl rfl) (pe_tup (pa_cons (pe_ix ix_list (pe_ix ix_list (pv 4) (pv 6) (fun _ _ => rfl)) (pv 7) (fun _ _ => rfl)) (pa_cons (pe_ix ix_list (pe_ix ix_list (pv 4) (pv 7) (fun _ _ => rfl)) (pv 8) (fun _ _ => rfl)) (pa_cons (pe_ix ix_list (pe_ix ix_list (pv 4) (pv 6) (fun _ _ => rfl)) (pv 8) (fun _ _ => rfl)) pa_nil))))) (pss_one 
    (ps_if (pt_cmpR (op_notInD (units65 hr)) (pv 9) (pv 5) (by rfl)) (pss_one 
      (ps_expr (pe_bm PySem.F.plainAttrs_list PySem.F.slot_list_append PySem.F.type_list_append mt_append (pv 5) (pa_cons (pv 9) pa_nil)))) pss_nil)))) (pss_one 
  (ps_ret (pe_callB (cr_sortT (d := 3) (B := 4) (by decide)) (by rfl) nso (by decide +kernel) (pa_cons (pv 5) pa_nil))))))), ?_⟩
    have at_b : ∀ {t : Int}, InT ns t → (ns.map V.int)[t.toNat]? = some (V.int (bk ns t)) := fun ht => ints_at (bk_get ht)
    refine ⟨_, rfl, _, rfl, _, rfl, (by show 3 ≤ sizeLine; decide), fun l0 hl0 => ?_⟩
    have R0 : Same H (upd H l0 (.lst [.int (-1), .int p, .int r])) := new_same hl0
    have g0 : (upd H l0 (.lst [.int (-1), .int p, .int r])) l0 = some (.lst [.int (-1), .int p, .int r]) := upd_same
    generalize upd H l0 (.lst [.int (-1), .int p, .int r]) = G0 at R0 g0
    refine ⟨_, rfl, _, rfl, b, _, _, _, rfl, rfl, SqL.of (R0 _ _ eb), at_of (j := p.toNat) (Int.toNat_of_nonneg ip.1).symm (at_b ip), _, rfl, _, rfl, (by show 3 ≤ sizeLine; decide), fun l1 hl1 => ?_⟩
    have R1 : Same G0 (upd G0 l1 (.lst [.int (bk ns p), .int (-1), .int q])) := new_same hl1
    have g1 : (upd G0 l1 (.lst [.int (bk ns p), .int (-1), .int q])) l1 = some (.lst [.int (bk ns p), .int (-1), .int q]) := upd_same
    generalize upd G0 l1 (.lst [.int (bk ns p), .int (-1), .int q]) = G1 at R1 g1
    refine ⟨_, rfl, _, rfl, b, _, _, _, rfl, rfl, SqL.of (R1 _ _ (R0 _ _ eb)), at_of (j := r.toNat) (Int.toNat_of_nonneg ir.1).symm (at_b ir), _, rfl, _, rfl, b, _, _, _, rfl, rfl, SqL.of (R1 _ _ (R0 _ _ eb)), at_of (j := q.toNat) (Int.toNat_of_nonneg iq.1).symm (at_b iq), _, rfl, (by show 3 ≤ sizeLine; decide), fun l2 hl2 => ?_⟩
    have R2 : Same G1 (upd G1 l2 (.lst [.int (bk ns r), .int (bk ns q), .int (-1)])) := new_same hl2
    have g2 : (upd G1 l2 (.lst [.int (bk ns r), .int (bk ns q), .int (-1)])) l2 = some (.lst [.int (bk ns r), .int (bk ns q), .int (-1)]) := upd_same
    generalize upd G1 l2 (.lst [.int (bk ns r), .int (bk ns q), .int (-1)]) = G2 at R2 g2
    refine ⟨(by show 3 ≤ sizeLine; decide), fun tb htb => ?_⟩
    have R3 : Same G2 (upd G2 tb (.lst [.ref l0, .ref l1, .ref l2])) := new_same htb
    have g3 : (upd G2 tb (.lst [.ref l0, .ref l1, .ref l2])) tb = some (.lst [.ref l0, .ref l1, .ref l2]) := upd_same
    generalize upd G2 tb (.lst [.ref l0, .ref l1, .ref l2]) = G3 at R3 g3
    have k0 := R3 _ _ (R2 _ _ (R1 _ _ g0))
    have k1 := R3 _ _ (R2 _ _ g1)
    have k2 := R3 _ _ g2
    have SG : Same H G3 := ((R0.trans R1).trans R2).trans R3
    refine ⟨Nat.zero_le _, fun D hD => ?_⟩
    have N0 : Gro G3 (upd G3 D (.lst [])) D [] := .nil hD
    generalize upd G3 D (.lst []) = G4 at N0
    refine ⟨(by show 3 ≤ sizeLine; decide), fun u0 hu0 => ?_⟩
    have X0 : Same G4 (upd G4 u0 (.tup [.int 0, .int 1, .int 2])) := new_same hu0
    have y0 : (upd G4 u0 (.tup [.int 0, .int 1, .int 2])) u0 = some (.tup [.int 0, .int 1, .int 2]) := upd_same
    generalize upd G4 u0 (.tup [.int 0, .int 1, .int 2]) = Y0 at X0 y0
    refine ⟨(by show 3 ≤ sizeLine; decide), fun u1 hu1 => ?_⟩
    have X1 : Same Y0 (upd Y0 u1 (.tup [.int 0, .int 2, .int 1])) := new_same hu1
    have y1 : (upd Y0 u1 (.tup [.int 0, .int 2, .int 1])) u1 = some (.tup [.int 0, .int 2, .int 1]) := upd_same
    generalize upd Y0 u1 (.tup [.int 0, .int 2, .int 1]) = Y1 at X1 y1
    refine ⟨(by show 3 ≤ sizeLine; decide), fun u2 hu2 => ?_⟩
    have X2 : Same Y1 (upd Y1 u2 (.tup [.int 1, .int 0, .int 2])) := new_same hu2
    have y2 : (upd Y1 u2 (.tup [.int 1, .int 0, .int 2])) u2 = some (.tup [.int 1, .int 0, .int 2]) := upd_same
    generalize upd Y1 u2 (.tup [.int 1, .int 0, .int 2]) = Y2 at X2 y2
    refine ⟨(by show 3 ≤ sizeLine; decide), fun u3 hu3 => ?_⟩
    have X3 : Same Y2 (upd Y2 u3 (.tup [.int 1, .int 2, .int 0])) := new_same hu3
    have y3 : (upd Y2 u3 (.tup [.int 1, .int 2, .int 0])) u3 = some (.tup [.int 1, .int 2, .int 0]) := upd_same
    generalize upd Y2 u3 (.tup [.int 1, .int 2, .int 0]) = Y3 at X3 y3
    refine ⟨(by show 3 ≤ sizeLine; decide), fun u4 hu4 => ?_⟩
    have X4 : Same Y3 (upd Y3 u4 (.tup [.int 2, .int 0, .int 1])) := new_same hu4
    have y4 : (upd Y3 u4 (.tup [.int 2, .int 0, .int 1])) u4 = some (.tup [.int 2, .int 0, .int 1]) := upd_same
    generalize upd Y3 u4 (.tup [.int 2, .int 0, .int 1]) = Y4 at X4 y4
    refine ⟨(by show 3 ≤ sizeLine; decide), fun u5 hu5 => ?_⟩
    have X5 : Same Y4 (upd Y4 u5 (.tup [.int 2, .int 1, .int 0])) := new_same hu5
    have y5 : (upd Y4 u5 (.tup [.int 2, .int 1, .int 0])) u5 = some (.tup [.int 2, .int 1, .int 0]) := upd_same
    generalize upd Y4 u5 (.tup [.int 2, .int 1, .int 0]) = Y5 at X5 y5
    refine ⟨(by show 6 ≤ sizeLine; decide), fun ol hol => ?_⟩
    have X6 : Same Y5 (upd Y5 ol (.lst [.ref u0, .ref u1, .ref u2, .ref u3, .ref u4, .ref u5])) := new_same hol
    have y6 : (upd Y5 ol (.lst [.ref u0, .ref u1, .ref u2, .ref u3, .ref u4, .ref u5])) ol = some (.lst [.ref u0, .ref u1, .ref u2, .ref u3, .ref u4, .ref u5]) := upd_same
    generalize upd Y5 ol (.lst [.ref u0, .ref u1, .ref u2, .ref u3, .ref u4, .ref u5]) = Y6 at X6 y6
    have Z5 := X6
    have Z4 := X5.trans Z5
    have Z3 := X4.trans Z4
    have Z2 := X3.trans Z3
    have Z1 := X2.trans Z2
    have Z0 := X1.trans Z1
    have ZZ := X0.trans Z0
    have NY : Gro G3 Y6 D [] := N0.keep ZZ
    have D_ne : ∀ (a : Addr) (xs : List V), Y6 a = some (.tup xs) → a ≠ D := fun a xs e => by
      obtain ⟨_, eD, _⟩ := NY.d
      exact ne_of e eD (by intro z; cases z)
    obtain ⟨ps0, eD0, _⟩ := N0.d
    have ol_D : ol ≠ D := (ne_of_none (X5 _ _ (X4 _ _ (X3 _ _ (X2 _ _ (X1 _ _ (X0 _ _ eD0)))))) hol).symm
    have old_D : ∀ (a : Addr) (o : HO), G3 a = some o → a ≠ D := fun a o e => ne_of_none e N0.n
    refine ⟨ol, rfl, ⟨_, SqL.of y6⟩, for_list (K := K) (a := ol) (xs := [.ref u0, .ref u1, .ref u2, .ref u3, .ref u4, .ref u5]) (fun i σ H' => ∃ v6 v7 v8 v9 : Option V, σ = [some (.ref b), some (.int p), some (.int q), some (.int r), some (.ref tb), some (.ref D), v6, v7, v8, v9] ∧ Gro G3 H' D (addAll [] ((six ns p q r).take i)) ∧ ∀ a o, a ≠ D → Y6 a = some o → H' a = some o)
      ⟨none, none, none, none, rfl, NY, fun a o _ e => e⟩ (fun i σ H' _ ⟨_, _, _, _, _, _, S⟩ => SqL.of (S _ _ ol_D y6)) ?_ ?_⟩
    · rintro i y σ H' hy ⟨v6, v7, v8, v9, rfl, N, S⟩
      have ft := S _ _ (old_D _ _ g3) (ZZ _ _ (N0.S _ _ g3))
      have f0 := S _ _ (old_D _ _ k0) (ZZ _ _ (N0.S _ _ k0))
      have f1 := S _ _ (old_D _ _ k1) (ZZ _ _ (N0.S _ _ k1))
      have f2 := S _ _ (old_D _ _ k2) (ZZ _ _ (N0.S _ _ k2))
      have l6 : ((six ns p q r).take i).length ≤ 6 := by rw [List.length_take]; exact Nat.min_le_right _ _
      have la := addAll_len (L := []) (ts := (six ns p q r).take i)
      simp only [List.length_nil, Nat.zero_add] at la
      rcases i with _ | _ | _ | _ | _ | _ | i
      · obtain rfl : V.ref u0 = y := Option.some.inj hy
        refine ⟨u0, _, rfl, SqT.of (S _ _ (D_ne _ _ (Z0 _ _ y0)) (Z0 _ _ y0)), rfl, _, _, rfl, _, _, rfl, _, _, rfl, rfl, ?_⟩
        refine ⟨_, rfl, _, rfl, tb, _, _, _, rfl, rfl, SqL.of ft, at_of (j := 0) (v := .ref l0) rfl rfl, _, rfl, l0, _, _, _, rfl, rfl, SqL.of f0, at_of (j := 1) (v := .int p) rfl rfl, _, rfl, _, rfl, tb, _, _, _, rfl, rfl, SqL.of ft, at_of (j := 1) (v := .ref l1) rfl rfl, _, rfl, l1, _, _, _, rfl, rfl, SqL.of f1, at_of (j := 2) (v := .int q) rfl rfl, _, rfl, _, rfl, tb, _, _, _, rfl, rfl, SqL.of ft, at_of (j := 0) (v := .ref l0) rfl rfl, _, rfl, l0, _, _, _, rfl, rfl, SqL.of f0, at_of (j := 2) (v := .int r) rfl rfl, (by show 3 ≤ sizeLine; decide), fun w1 hw1 => ?_⟩
        have M1 : Same H' (upd H' w1 (.tup [.int p, .int q, .int r])) := new_same hw1
        have m1 : (upd H' w1 (.tup [.int p, .int q, .int r])) w1 = some (.tup (([p, q, r] : List Int).map V.int)) := upd_same
        generalize upd H' w1 (.tup [.int p, .int q, .int r]) = H2 at M1 m1
        have N2 := N.keep M1
        obtain ⟨d1, s1⟩ := N2.data (K := K)
        have tk : (six ns p q r).take (0 + 1) = (six ns p q r).take 0 ++ [[p, q, r]] := rfl
        rw [tk, addAll_snoc]
        refine ⟨_, rfl, _, rfl, .tuple (([p, q, r] : List Int).map PyData.int), _, .tup (SqT.of m1) (dp_ints _), d1, shaped_ti _, s1, _, rfl, ?_⟩
        rw [any_tup]
        by_cases c : [p, q, r] ∈ addAll [] ((six ns p q r).take 0)
        · rw [decide_eq_true c, if_pos c]
          exact iteF ⟨_, _, _, _, rfl, N2, fun a o n e => M1 _ _ (S a o n e)⟩
        · rw [decide_eq_false c, if_neg c]
          obtain ⟨acc, q1, q2, q3⟩ := N2.app m1
          refine iteT ⟨_, rfl, .inl ⟨rfl, _, SqL.of q1⟩, _, rfl, D, _, _, rfl, rfl, q1, small1000 (by omega), _, _, _, _, rfl, q3, fun a o n e => ?_⟩
          rw [upd_ne n]
          exact M1 _ _ (S a o n e)
      · obtain rfl : V.ref u1 = y := Option.some.inj hy
        refine ⟨u1, _, rfl, SqT.of (S _ _ (D_ne _ _ (Z1 _ _ y1)) (Z1 _ _ y1)), rfl, _, _, rfl, _, _, rfl, _, _, rfl, rfl, ?_⟩
        refine ⟨_, rfl, _, rfl, tb, _, _, _, rfl, rfl, SqL.of ft, at_of (j := 0) (v := .ref l0) rfl rfl, _, rfl, l0, _, _, _, rfl, rfl, SqL.of f0, at_of (j := 2) (v := .int r) rfl rfl, _, rfl, _, rfl, tb, _, _, _, rfl, rfl, SqL.of ft, at_of (j := 2) (v := .ref l2) rfl rfl, _, rfl, l2, _, _, _, rfl, rfl, SqL.of f2, at_of (j := 1) (v := .int (bk ns q)) rfl rfl, _, rfl, _, rfl, tb, _, _, _, rfl, rfl, SqL.of ft, at_of (j := 0) (v := .ref l0) rfl rfl, _, rfl, l0, _, _, _, rfl, rfl, SqL.of f0, at_of (j := 1) (v := .int p) rfl rfl, (by show 3 ≤ sizeLine; decide), fun w1 hw1 => ?_⟩
        have M1 : Same H' (upd H' w1 (.tup [.int r, .int (bk ns q), .int p])) := new_same hw1
        have m1 : (upd H' w1 (.tup [.int r, .int (bk ns q), .int p])) w1 = some (.tup (([r, bk ns q, p] : List Int).map V.int)) := upd_same
        generalize upd H' w1 (.tup [.int r, .int (bk ns q), .int p]) = H2 at M1 m1
        have N2 := N.keep M1
        obtain ⟨d1, s1⟩ := N2.data (K := K)
        have tk : (six ns p q r).take (1 + 1) = (six ns p q r).take 1 ++ [[r, bk ns q, p]] := rfl
        rw [tk, addAll_snoc]
        refine ⟨_, rfl, _, rfl, .tuple (([r, bk ns q, p] : List Int).map PyData.int), _, .tup (SqT.of m1) (dp_ints _), d1, shaped_ti _, s1, _, rfl, ?_⟩
        rw [any_tup]
        by_cases c : [r, bk ns q, p] ∈ addAll [] ((six ns p q r).take 1)
        · rw [decide_eq_true c, if_pos c]
          exact iteF ⟨_, _, _, _, rfl, N2, fun a o n e => M1 _ _ (S a o n e)⟩
        · rw [decide_eq_false c, if_neg c]
          obtain ⟨acc, q1, q2, q3⟩ := N2.app m1
          refine iteT ⟨_, rfl, .inl ⟨rfl, _, SqL.of q1⟩, _, rfl, D, _, _, rfl, rfl, q1, small1000 (by omega), _, _, _, _, rfl, q3, fun a o n e => ?_⟩
          rw [upd_ne n]
          exact M1 _ _ (S a o n e)
      · obtain rfl : V.ref u2 = y := Option.some.inj hy
        refine ⟨u2, _, rfl, SqT.of (S _ _ (D_ne _ _ (Z2 _ _ y2)) (Z2 _ _ y2)), rfl, _, _, rfl, _, _, rfl, _, _, rfl, rfl, ?_⟩
        refine ⟨_, rfl, _, rfl, tb, _, _, _, rfl, rfl, SqL.of ft, at_of (j := 1) (v := .ref l1) rfl rfl, _, rfl, l1, _, _, _, rfl, rfl, SqL.of f1, at_of (j := 0) (v := .int (bk ns p)) rfl rfl, _, rfl, _, rfl, tb, _, _, _, rfl, rfl, SqL.of ft, at_of (j := 0) (v := .ref l0) rfl rfl, _, rfl, l0, _, _, _, rfl, rfl, SqL.of f0, at_of (j := 2) (v := .int r) rfl rfl, _, rfl, _, rfl, tb, _, _, _, rfl, rfl, SqL.of ft, at_of (j := 1) (v := .ref l1) rfl rfl, _, rfl, l1, _, _, _, rfl, rfl, SqL.of f1, at_of (j := 2) (v := .int q) rfl rfl, (by show 3 ≤ sizeLine; decide), fun w1 hw1 => ?_⟩
        have M1 : Same H' (upd H' w1 (.tup [.int (bk ns p), .int r, .int q])) := new_same hw1
        have m1 : (upd H' w1 (.tup [.int (bk ns p), .int r, .int q])) w1 = some (.tup (([bk ns p, r, q] : List Int).map V.int)) := upd_same
        generalize upd H' w1 (.tup [.int (bk ns p), .int r, .int q]) = H2 at M1 m1
        have N2 := N.keep M1
        obtain ⟨d1, s1⟩ := N2.data (K := K)
        have tk : (six ns p q r).take (2 + 1) = (six ns p q r).take 2 ++ [[bk ns p, r, q]] := rfl
        rw [tk, addAll_snoc]
        refine ⟨_, rfl, _, rfl, .tuple (([bk ns p, r, q] : List Int).map PyData.int), _, .tup (SqT.of m1) (dp_ints _), d1, shaped_ti _, s1, _, rfl, ?_⟩
        rw [any_tup]
        by_cases c : [bk ns p, r, q] ∈ addAll [] ((six ns p q r).take 2)
        · rw [decide_eq_true c, if_pos c]
          exact iteF ⟨_, _, _, _, rfl, N2, fun a o n e => M1 _ _ (S a o n e)⟩
        · rw [decide_eq_false c, if_neg c]
          obtain ⟨acc, q1, q2, q3⟩ := N2.app m1
          refine iteT ⟨_, rfl, .inl ⟨rfl, _, SqL.of q1⟩, _, rfl, D, _, _, rfl, rfl, q1, small1000 (by omega), _, _, _, _, rfl, q3, fun a o n e => ?_⟩
          rw [upd_ne n]
          exact M1 _ _ (S a o n e)
      · obtain rfl : V.ref u3 = y := Option.some.inj hy
        refine ⟨u3, _, rfl, SqT.of (S _ _ (D_ne _ _ (Z3 _ _ y3)) (Z3 _ _ y3)), rfl, _, _, rfl, _, _, rfl, _, _, rfl, rfl, ?_⟩
        refine ⟨_, rfl, _, rfl, tb, _, _, _, rfl, rfl, SqL.of ft, at_of (j := 1) (v := .ref l1) rfl rfl, _, rfl, l1, _, _, _, rfl, rfl, SqL.of f1, at_of (j := 2) (v := .int q) rfl rfl, _, rfl, _, rfl, tb, _, _, _, rfl, rfl, SqL.of ft, at_of (j := 2) (v := .ref l2) rfl rfl, _, rfl, l2, _, _, _, rfl, rfl, SqL.of f2, at_of (j := 0) (v := .int (bk ns r)) rfl rfl, _, rfl, _, rfl, tb, _, _, _, rfl, rfl, SqL.of ft, at_of (j := 1) (v := .ref l1) rfl rfl, _, rfl, l1, _, _, _, rfl, rfl, SqL.of f1, at_of (j := 0) (v := .int (bk ns p)) rfl rfl, (by show 3 ≤ sizeLine; decide), fun w1 hw1 => ?_⟩
        have M1 : Same H' (upd H' w1 (.tup [.int q, .int (bk ns r), .int (bk ns p)])) := new_same hw1
        have m1 : (upd H' w1 (.tup [.int q, .int (bk ns r), .int (bk ns p)])) w1 = some (.tup (([q, bk ns r, bk ns p] : List Int).map V.int)) := upd_same
        generalize upd H' w1 (.tup [.int q, .int (bk ns r), .int (bk ns p)]) = H2 at M1 m1
        have N2 := N.keep M1
        obtain ⟨d1, s1⟩ := N2.data (K := K)
        have tk : (six ns p q r).take (3 + 1) = (six ns p q r).take 3 ++ [[q, bk ns r, bk ns p]] := rfl
        rw [tk, addAll_snoc]
        refine ⟨_, rfl, _, rfl, .tuple (([q, bk ns r, bk ns p] : List Int).map PyData.int), _, .tup (SqT.of m1) (dp_ints _), d1, shaped_ti _, s1, _, rfl, ?_⟩
        rw [any_tup]
        by_cases c : [q, bk ns r, bk ns p] ∈ addAll [] ((six ns p q r).take 3)
        · rw [decide_eq_true c, if_pos c]
          exact iteF ⟨_, _, _, _, rfl, N2, fun a o n e => M1 _ _ (S a o n e)⟩
        · rw [decide_eq_false c, if_neg c]
          obtain ⟨acc, q1, q2, q3⟩ := N2.app m1
          refine iteT ⟨_, rfl, .inl ⟨rfl, _, SqL.of q1⟩, _, rfl, D, _, _, rfl, rfl, q1, small1000 (by omega), _, _, _, _, rfl, q3, fun a o n e => ?_⟩
          rw [upd_ne n]
          exact M1 _ _ (S a o n e)
      · obtain rfl : V.ref u4 = y := Option.some.inj hy
        refine ⟨u4, _, rfl, SqT.of (S _ _ (D_ne _ _ (Z4 _ _ y4)) (Z4 _ _ y4)), rfl, _, _, rfl, _, _, rfl, _, _, rfl, rfl, ?_⟩
        refine ⟨_, rfl, _, rfl, tb, _, _, _, rfl, rfl, SqL.of ft, at_of (j := 2) (v := .ref l2) rfl rfl, _, rfl, l2, _, _, _, rfl, rfl, SqL.of f2, at_of (j := 0) (v := .int (bk ns r)) rfl rfl, _, rfl, _, rfl, tb, _, _, _, rfl, rfl, SqL.of ft, at_of (j := 0) (v := .ref l0) rfl rfl, _, rfl, l0, _, _, _, rfl, rfl, SqL.of f0, at_of (j := 1) (v := .int p) rfl rfl, _, rfl, _, rfl, tb, _, _, _, rfl, rfl, SqL.of ft, at_of (j := 2) (v := .ref l2) rfl rfl, _, rfl, l2, _, _, _, rfl, rfl, SqL.of f2, at_of (j := 1) (v := .int (bk ns q)) rfl rfl, (by show 3 ≤ sizeLine; decide), fun w1 hw1 => ?_⟩
        have M1 : Same H' (upd H' w1 (.tup [.int (bk ns r), .int p, .int (bk ns q)])) := new_same hw1
        have m1 : (upd H' w1 (.tup [.int (bk ns r), .int p, .int (bk ns q)])) w1 = some (.tup (([bk ns r, p, bk ns q] : List Int).map V.int)) := upd_same
        generalize upd H' w1 (.tup [.int (bk ns r), .int p, .int (bk ns q)]) = H2 at M1 m1
        have N2 := N.keep M1
        obtain ⟨d1, s1⟩ := N2.data (K := K)
        have tk : (six ns p q r).take (4 + 1) = (six ns p q r).take 4 ++ [[bk ns r, p, bk ns q]] := rfl
        rw [tk, addAll_snoc]
        refine ⟨_, rfl, _, rfl, .tuple (([bk ns r, p, bk ns q] : List Int).map PyData.int), _, .tup (SqT.of m1) (dp_ints _), d1, shaped_ti _, s1, _, rfl, ?_⟩
        rw [any_tup]
        by_cases c : [bk ns r, p, bk ns q] ∈ addAll [] ((six ns p q r).take 4)
        · rw [decide_eq_true c, if_pos c]
          exact iteF ⟨_, _, _, _, rfl, N2, fun a o n e => M1 _ _ (S a o n e)⟩
        · rw [decide_eq_false c, if_neg c]
          obtain ⟨acc, q1, q2, q3⟩ := N2.app m1
          refine iteT ⟨_, rfl, .inl ⟨rfl, _, SqL.of q1⟩, _, rfl, D, _, _, rfl, rfl, q1, small1000 (by omega), _, _, _, _, rfl, q3, fun a o n e => ?_⟩
          rw [upd_ne n]
          exact M1 _ _ (S a o n e)
      · obtain rfl : V.ref u5 = y := Option.some.inj hy
        refine ⟨u5, _, rfl, SqT.of (S _ _ (D_ne _ _ (Z5 _ _ y5)) (Z5 _ _ y5)), rfl, _, _, rfl, _, _, rfl, _, _, rfl, rfl, ?_⟩
        refine ⟨_, rfl, _, rfl, tb, _, _, _, rfl, rfl, SqL.of ft, at_of (j := 2) (v := .ref l2) rfl rfl, _, rfl, l2, _, _, _, rfl, rfl, SqL.of f2, at_of (j := 1) (v := .int (bk ns q)) rfl rfl, _, rfl, _, rfl, tb, _, _, _, rfl, rfl, SqL.of ft, at_of (j := 1) (v := .ref l1) rfl rfl, _, rfl, l1, _, _, _, rfl, rfl, SqL.of f1, at_of (j := 0) (v := .int (bk ns p)) rfl rfl, _, rfl, _, rfl, tb, _, _, _, rfl, rfl, SqL.of ft, at_of (j := 2) (v := .ref l2) rfl rfl, _, rfl, l2, _, _, _, rfl, rfl, SqL.of f2, at_of (j := 0) (v := .int (bk ns r)) rfl rfl, (by show 3 ≤ sizeLine; decide), fun w1 hw1 => ?_⟩
        have M1 : Same H' (upd H' w1 (.tup [.int (bk ns q), .int (bk ns p), .int (bk ns r)])) := new_same hw1
        have m1 : (upd H' w1 (.tup [.int (bk ns q), .int (bk ns p), .int (bk ns r)])) w1 = some (.tup (([bk ns q, bk ns p, bk ns r] : List Int).map V.int)) := upd_same
        generalize upd H' w1 (.tup [.int (bk ns q), .int (bk ns p), .int (bk ns r)]) = H2 at M1 m1
        have N2 := N.keep M1
        obtain ⟨d1, s1⟩ := N2.data (K := K)
        have tk : (six ns p q r).take (5 + 1) = (six ns p q r).take 5 ++ [[bk ns q, bk ns p, bk ns r]] := rfl
        rw [tk, addAll_snoc]
        refine ⟨_, rfl, _, rfl, .tuple (([bk ns q, bk ns p, bk ns r] : List Int).map PyData.int), _, .tup (SqT.of m1) (dp_ints _), d1, shaped_ti _, s1, _, rfl, ?_⟩
        rw [any_tup]
        by_cases c : [bk ns q, bk ns p, bk ns r] ∈ addAll [] ((six ns p q r).take 5)
        · rw [decide_eq_true c, if_pos c]
          exact iteF ⟨_, _, _, _, rfl, N2, fun a o n e => M1 _ _ (S a o n e)⟩
        · rw [decide_eq_false c, if_neg c]
          obtain ⟨acc, q1, q2, q3⟩ := N2.app m1
          refine iteT ⟨_, rfl, .inl ⟨rfl, _, SqL.of q1⟩, _, rfl, D, _, _, rfl, rfl, q1, small1000 (by omega), _, _, _, _, rfl, q3, fun a o n e => ?_⟩
          rw [upd_ne n]
          exact M1 _ _ (S a o n e)
      · simp at hy
    · rintro σ H' ⟨v6, v7, v8, v9, rfl, N, S⟩
      have t6 : (six ns p q r).take ([V.ref u0, .ref u1, .ref u2, .ref u3, .ref u4, .ref u5] : List V).length = six ns p q r := rfl
      rw [t6] at N
      have ND := addAll_nodup (L := []) (ts := six ns p q r) List.nodup_nil
      have MM : ∀ x, x ∈ addAll [] (six ns p q r) ↔ x ∈ six ns p q r := fun x => by rw [addAll_mem]; simp
      have la := addAll_len (L := []) (ts := six ns p q r)
      generalize addAll [] (six ns p q r) = L at N ND MM la
      have la : L.length ≤ 6 := la
      obtain ⟨ps, e1, e2, e3⟩ := N.d
      have BD : ∀ x ∈ L, x.length = 3 ∧ TS.Bd 4 x := fun x hx => six_bd gb ip iq ir x ((MM x).mp hx)
      have inL : ∀ (j : Nat) (a : Addr), ps[j]? = some a → ∃ ts, L[j]? = some ts ∧ H' a = some (.tup (ts.map V.int)) := fun j a ej => by
        have hj := (List.getElem?_eq_some_iff.mp ej).1
        have q := List.getElem?_eq_getElem (l := L) (i := j) (by omega)
        exact ⟨_, q, (e3 j a _ ej q).2⟩
      refine ⟨_, rfl, D, _, rfl, SqL.of e1, by rw [List.length_map]; omega, fun x hx => ?_, fun ys z pm pw hz => ?_⟩
      · obtain ⟨a, ha, rfl⟩ := List.mem_map.mp hx
        obtain ⟨j, hj⟩ := List.getElem?_of_mem ha
        obtain ⟨ts, q1, q2⟩ := inL j a hj
        obtain ⟨b1, b2⟩ := BD ts (List.mem_of_getElem? q1)
        exact ⟨ts, ⟨a, rfl, SqT.of q2⟩, b1, b2⟩
      · have zm : (ps.zip L).map (fun w => V.ref w.1) = ps.map V.ref := by
          rw [show (fun w : Addr × List Int => V.ref w.1) = V.ref ∘ Prod.fst from rfl, ← List.map_map, List.map_fst_zip (by omega)]
        rw [← zm] at pm
        obtain ⟨zs, pz, rfl⟩ := perm_map_inv pm rfl
        have zc : ∀ w ∈ zs, w.2 ∈ L ∧ H' w.1 = some (.tup (w.2.map V.int)) := fun w hw => by
          have hw2 := pz.mem_iff.mp hw
          obtain ⟨j, hj⟩ := List.getElem?_of_mem hw2
          rw [List.getElem?_zip_eq_some] at hj
          obtain ⟨h1, h2⟩ := hj
          exact ⟨List.mem_of_getElem? h2, (e3 j _ _ h1 h2).2⟩
        have p2 : (zs.map Prod.snd).Perm L := by
          have := pz.map Prod.snd
          rwa [List.map_snd_zip (by omega)] at this
        have T' : Same H' (upd H' z (.lst (zs.map fun w => V.ref w.1))) := new_same hz
        refine k _ z (zs.map Prod.snd) (((SG.trans N.S)).trans T') (same_free (SG.trans N.S) hz) ⟨zs.map Prod.fst, by rw [upd_same, List.map_map]; rfl, by rw [List.length_map, List.length_map], fun j a ts q1 q2 => ?_⟩ ⟨?_, fun x => by rw [p2.mem_iff, MM]⟩
        · rw [List.getElem?_map] at q1 q2
          cases ej : zs[j]? with
          | none => rw [ej] at q1; cases q1
          | some w =>
            rw [ej] at q1 q2
            obtain rfl := Option.some.inj q1
            obtain rfl := Option.some.inj q2
            exact T' _ _ (zc w (List.mem_of_getElem? ej)).2
        · have nd2 : (zs.map Prod.snd).Nodup := p2.nodup_iff.mpr ND
          rw [List.pairwise_map]
          have nd' : zs.Pairwise fun a b => a.2 ≠ b.2 := by
            have : (zs.map Prod.snd).Pairwise (· ≠ ·) := nd2
            rwa [List.pairwise_map] at this
          rw [List.pairwise_map] at pw
          refine (pw.and nd').imp_of_mem fun {a b} ma mb h => ?_
          obtain ⟨h1, h2⟩ := h
          obtain ⟨a1, a2⟩ := zc a ma
          obtain ⟨b1, b2⟩ := zc b mb
          have h1 := h1 a.2 b.2 ⟨a.1, rfl, SqT.of a2⟩ ⟨b.1, rfl, SqT.of b2⟩
          rcases Int.lt_or_eq_of_le h1 with h3 | h3
          · exact h3
          · obtain ⟨l1, c1⟩ := BD _ a1
            obtain ⟨l2, c2⟩ := BD _ b1
            exact absurd (code_inj (by omega) c1 c2 h3) h2
end
end J

set_option Elab.async false
set_option linter.all false
set_option maxRecDepth 100000
set_option maxHeartbeats 8000000
namespace J
open PySem PySem.Spec PyProof.Rows L2
/-! ### isinstance of the caught error, an error with fields -/
def rIsX (K : PySem.W.Frag) (C a : Addr) (cls : Value) (d : Option Addr) : List V → Hp → VK → Prop := fun xs H Q => ∃ (c : V) (cv : Value) (b : Bool) (dd : Addr) (fs : List (Str × V)), xs = [.ref a, c] ∧ cls = .ref C ∧ d = some dd ∧ H dd = some (.xd fs) ∧ ClsV c cv ∧ PySem.W.kitOne K (.ref C) cv = some b ∧ Q (.bl b) H
theorem call_isX {X : Cx} {a C : Addr} {oe : Obj} {cls : Value} {d : Option Addr} {pn : List (Addr × Obj)} (E : ExcC X.K C) (hz : Zc cls d oe) (hf : ∃ vs, oe.data = .fields vs) : CallR (X.suite a ((a, oe) :: pn)) (.builtin "isinstance") (rIsX X.K C a cls d) := by
  intro pins s σ H xs us Q I r h
  obtain ⟨c, cv, b, dd, fs, rfl, rfl, rfl, ea, k, e, q⟩ := h
  obtain ⟨u1, u2, rfl, r1, r2⟩ := vals2 r
  have e2 := k.eq r2
  subst e2
  obtain rfl : u1 = Value.ref a := r1
  obtain ⟨hget, _⟩ := I.pin (a, oe) (List.mem_append_left _ List.mem_cons_self)
  obtain ⟨vs, hd⟩ := hf
  have hx : ObjOk X.prog X.w H s.heap dd (.xd fs) := I.hok dd _ ea
  obtain ⟨mA, hns, hr⟩ := hx
  obtain ⟨od, ho, hl⟩ := lookIn_ns hns
  have J : PySem.W.InstAt s.heap a oe C (some od) := ⟨hget, hz.1, by unfold PySem.W.notCls; rw [hd] <;> rfl, by rw [hz.2]; exact ho⟩
  have hcl : (PySem.W.clsIn X.K C).isSome = true := by
    obtain ⟨cd, hc, _⟩ := PySem.W.any_some E.hd
    rw [hc]
    rfl
  exact PySem.W.kia_one (PySem.W.kitx_exc hcl E.hg E.hk E.hs E.ha E.hn E.ht E.hm) I.kIn J e (fun z => nomatch z) fun tk => ⟨.bl b, H, I.tok tk, rfl, q⟩
/-! ### things that are no threes -/
/-- an item: a thing with its data -/
def Itm (K : PySem.W.Frag) (H : Hp) (y : V) : Prop := (∃ s, Is H y s) ∧ ∃ d : PyData, d.canLay0 = true ∧ d.depth ≤ 1 ∧ ∀ H', Same H H' → Dp K H' y d
theorem Itm.keep {K : PySem.W.Frag} {H H' : Hp} {y : V} (h : Itm K H y) (S : Same H H') : Itm K H' y := by
  obtain ⟨⟨s, a⟩, d, b, c, e⟩ := h
  exact ⟨⟨s, a.keep S⟩, d, b, c, fun H2 S2 => e H2 (S.trans S2)⟩
theorem itm_int {K : PySem.W.Frag} {H : Hp} (n : Int) : Itm K H (.int n) := ⟨⟨.sc (.int n), rfl, rfl⟩, .int n, by simp [PyData.canLay0], by simp [PyData.depth], fun _ _ => .int n⟩
theorem itm_bl {K : PySem.W.Frag} {H : Hp} (b : Bool) : Itm K H (.bl b) := ⟨⟨.sc (.bl b), rfl, rfl⟩, .bool b, by simp [PyData.canLay0], by simp [PyData.depth], fun _ _ => .bl b⟩
theorem itm_non {K : PySem.W.Frag} {H : Hp} : Itm K H .non := ⟨⟨.sc .non, rfl, rfl⟩, .none, by simp [PyData.canLay0], by simp [PyData.depth], fun _ _ => .non⟩
theorem itm_tup {K : PySem.W.Frag} {H : Hp} {z : Addr} (h : H z = some (.tup [.int 0])) : Itm K H (.ref z) := ⟨⟨.tup _, z, rfl, h⟩, .tuple [.int 0], by simp [PyData.canLay0, PyData.canLayAll0], by simp [PyData.depth, PyData.depthAll], fun H' S => .tup (SqT.of (S _ _ h)) (.cons (.int 0) .nil)⟩
theorem itm_all {K : PySem.W.Frag} {H : Hp} : ∀ {xs : List V}, (∀ y ∈ xs, Itm K H y) → ∃ ds : List PyData, PyData.canLayAll0 ds = true ∧ PyData.depthAll ds ≤ 1 ∧ ∀ H', Same H H' → DpAll K H' xs ds
  | [], _ => ⟨[], by simp [PyData.canLayAll0], by simp [PyData.depthAll], fun _ _ => .nil⟩
  | x :: xs, h => by
    obtain ⟨ds, a, b, c⟩ := itm_all (xs := xs) fun y hy => h y (List.mem_cons_of_mem _ hy)
    obtain ⟨_, d, a1, b1, c1⟩ := h x List.mem_cons_self
    refine ⟨d :: ds, by simp only [PyData.canLayAll0, a1, a, Bool.and_self], ?_, fun H' S => .cons (c1 H' S) (c H' S)⟩
    simp only [PyData.depthAll]
    omega
/-- no three of m ties -/
def BadT (K : PySem.W.Frag) (m : Nat) (H : Hp) (v : V) (s : Sh) : Prop := Is H v s ∧ Known H (items s) ∧ (∀ ns : List Int, ns.length = m → threeB ns s = false) ∧ ∃ d : PyData, SeqAt.shaped d = true ∧ PyData.eqv d d = true ∧ ∀ H', Same H H' → Dp K H' v d
theorem BadT.keep {K : PySem.W.Frag} {m : Nat} {H H' : Hp} {v : V} {s : Sh} (h : BadT K m H v s) (S : Same H H') : BadT K m H' v s := by
  obtain ⟨a, b, c, d, e, f, g⟩ := h
  exact ⟨a.keep S, fun y hy => by obtain ⟨t, ht⟩ := b y hy; exact ⟨t, ht.keep S⟩, c, d, e, f, fun H2 S2 => g H2 (S.trans S2)⟩
theorem badT_lst {K : PySem.W.Frag} {m : Nat} {H : Hp} {z : Addr} {xs : List V} (e : H z = some (.lst xs)) (h : ∀ y ∈ xs, Itm K H y) (b : ∀ ns : List Int, ns.length = m → threeB ns (.lst xs) = false) : BadT K m H (.ref z) (.lst xs) := by
  obtain ⟨ds, a1, a2, a3⟩ := itm_all h
  refine ⟨⟨z, rfl, e⟩, fun y hy => (h y hy).1, b, .list ds, ?_, ?_, fun H' S => .lst (SqL.of (S _ _ e)) (a3 H' S)⟩
  · show (PyData.canLay0 (.list ds) && decide (PyData.depth (.list ds) ≤ 64)) = true
    rw [Bool.and_eq_true]
    refine ⟨by simp only [PyData.canLay0]; exact a1, decide_eq_true ?_⟩
    simp only [PyData.depth]
    omega
  · simp only [PyData.eqv]
    exact SeqAt.eqvAll_refl ds a1
theorem badT_tup {K : PySem.W.Frag} {m : Nat} {H : Hp} {z : Addr} {xs : List V} (e : H z = some (.tup xs)) (h : ∀ y ∈ xs, Itm K H y) (b : ∀ ns : List Int, ns.length = m → threeB ns (.tup xs) = false) : BadT K m H (.ref z) (.tup xs) := by
  obtain ⟨ds, a1, a2, a3⟩ := itm_all h
  refine ⟨⟨z, rfl, e⟩, fun y hy => (h y hy).1, b, .tuple ds, ?_, ?_, fun H' S => .tup (SqT.of (S _ _ e)) (a3 H' S)⟩
  · show (PyData.canLay0 (.tuple ds) && decide (PyData.depth (.tuple ds) ≤ 64)) = true
    rw [Bool.and_eq_true]
    refine ⟨by simp only [PyData.canLay0]; exact a1, decide_eq_true ?_⟩
    simp only [PyData.depth]
    omega
  · simp only [PyData.eqv]
    exact SeqAt.eqvAll_refl ds a1
theorem badT_sc {K : PySem.W.Frag} {m : Nat} {H : Hp} {v : V} {d : PyData} (s : isSc v = true) (a1 : d.canLay0 = true) (a2 : d.depth ≤ 1) (a3 : PyData.eqv d d = true) (a4 : ∀ H', Dp K H' v d) : BadT K m H v (.sc v) := by
  refine ⟨(⟨rfl, s⟩ : v = v ∧ isSc v = true), (fun y hy => by cases hy), fun _ _ => rfl, d, ?_, a3, fun H' _ => a4 H'⟩
  show (d.canLay0 && decide (d.depth ≤ 64)) = true
  rw [a1, Bool.true_and]
  exact decide_eq_true (by omega)
theorem all3 {f : V → Bool} {a b c : V} (h : f a = false ∨ f b = false ∨ f c = false) : (decide (([a, b, c] : List V).length = 3) && ([a, b, c] : List V).all f) = false := by
  rcases h with h | h | h <;> simp [h]
/-- an item that is no tie of m ties -/
def Odd (m : Nat) (y : V) : Prop := ∀ ns : List Int, ns.length = m → tieB ns y = false
theorem odd_int {m : Nat} {n : Int} (h : n < 0 ∨ (m : Int) ≤ n) : Odd m (.int n) := fun ns hn => by
  cases e : tieB ns (.int n) with
  | false => rfl
  | true =>
    obtain ⟨i, b, e1, e2⟩ := tieB_true e
    injection e1 with e1
    have := (List.getElem?_eq_some_iff.mp e2).1
    omega
theorem odd_sc {m : Nat} {y : V} (h : ∀ n : Int, y ≠ .int n) : Odd m y := fun ns hn => by
  cases e : tieB ns y with
  | false => rfl
  | true =>
    obtain ⟨i, b, e1, e2⟩ := tieB_true e
    exact absurd e1 (h _)
abbrev s_Lbad : Stmt := top 27
theorem sc_Lbad : FnScope ["_law_hand_here", "_law_many", "_law_p", "_law_q", "_law_odd", "_law_sort"] ["_law_hand_here", "_law_many"] (defScope s_Lbad) := ⟨rfl, rfl, rfl, by decide +kernel, rfl, by decide +kernel, by decide +kernel⟩
def spBad (K : PySem.W.Frag) : Sp := fun vs H Q _ => ∃ (h q : Addr) (m : Nat), vs = [.ref h, .int (m : Nat)] ∧ Hand H h q ∧ 0 < m ∧ m ≤ 4 ∧ ∀ (H' : Hp) (v : V) (s : Sh), But h H H' → Hand H' h q → BadT K m H' v s → Q v H'
section
variable {P : Program} {w : World} {K : PySem.W.Frag} {mg : Str → Option Value} {base : Heap}
theorem ok_Lbad {f fD fP : Addr} {fd fdD fdP : FuncData} (F : Fun K "_law_bad" "_law_bad" s_Lbad f fd) (GD : Cal P w K mg base CX0 2 "_law_draw" fD fdD ["_law_hand_here", "_law_many"] spDraw) (GP : Cal P w K mg base CX0 3 "_law_pick" fP fdP ["_law_hand_here", "_law_things"] spPick) :
    FnOk P w K mg base CX0 4 f fd ["_law_hand_here", "_law_many"] (spBad K) := by
  refine F.ok sc_Lbad (fun vs H Q E h => ?_) (fun cdv A outer s H vs Q E hr h => ?_)
  · obtain ⟨h, q, m, rfl, _⟩ := h
    rfl
  · obtain ⟨h, q, m, rfl, hh, m0, m4, k⟩ := h
    refine ⟨_, (pss_cons 
  (ps_set (i := 2) sc_Lbad.nd rfl (Or.inl rfl) (pcal GD hr pass0 (pa_cons (pv 0) (pa_cons (pv 1) pa_nil)))) (pss_cons 
  (ps_set (i := 3) sc_Lbad.nd rfl (Or.inl rfl) (pcal GD hr pass0 (pa_cons (pv 0) (pa_cons (pv 1) pa_nil)))) (pss_cons 
  (ps_set (i := 4) sc_Lbad.nd rfl (Or.inl rfl) (pcal GP hr pass0 (pa_cons (pv 0) (pa_cons (pe_lst (pa_cons (pv 1) (pa_cons (pe_op op_add (pv 1) (pcal GD hr pass0 (pa_cons (pv 0) (pa_cons (pe_op op_pow pe_int pe_int) pa_nil)))) (pa_cons (pe_un un_neg pe_int) (pa_cons (pe_op op_sub (pe_un un_neg pe_int) (pcal GD hr pass0 (pa_cons (pv 0) (pa_cons (pe_op op_pow pe_int pe_int) pa_nil)))) (pa_cons pe_non (pa_cons pe_str (pa_cons (pe_tup (pa_cons pe_int pa_nil)) pa_nil)))))))) pa_nil)))) (pss_cons 
  (ps_set (i := 5) sc_Lbad.nd rfl (Or.inl rfl) (pcal GD hr pass0 (pa_cons (pv 0) (pa_cons pe_int pa_nil)))) (pss_cons 
  (ps_if (pt_cmpR op_eq (pv 5) pe_int (nomark _)) (pss_one 
    (ps_ret (pe_lst (pa_cons (pv 2) (pa_cons (pv 3) pa_nil))))) pss_nil) (pss_cons 
  (ps_if (pt_cmpR op_eq (pv 5) pe_int (nomark _)) (pss_one 
    (ps_ret (pe_tup (pa_cons (pv 2) (pa_cons (pv 3) (pa_cons (pv 2) (pa_cons (pv 3) pa_nil))))))) pss_nil) (pss_cons 
  (ps_if (pt_cmpR op_eq (pv 5) pe_int (nomark _)) (pss_one 
    (ps_ret (pe_tup (pa_cons (pv 4) (pa_cons (pv 2) (pa_cons (pv 3) pa_nil)))))) pss_nil) (pss_cons 
  (ps_if (pt_cmpR op_eq (pv 5) pe_int (nomark _)) (pss_one 
    (ps_ret (pe_lst (pa_cons (pv 2) (pa_cons (pv 4) (pa_cons (pv 3) pa_nil)))))) pss_nil) (pss_cons 
  (ps_if (pt_cmpR op_eq (pv 5) pe_int (nomark _)) (pss_one 
    (ps_ret (pe_tup (pa_cons (pv 2) (pa_cons (pv 3) (pa_cons (pv 4) pa_nil)))))) pss_nil) (pss_cons 
  (ps_if (pt_cmpR op_eq (pv 5) pe_int (nomark _)) (pss_one 
    (ps_ret (pe_lst (pa_cons (pv 2) (pa_cons (pv 3) (pa_cons pe_bl pa_nil)))))) pss_nil) (pss_cons 
  (ps_if (pt_cmpR op_eq (pv 5) pe_int (nomark _)) (pss_one 
    (ps_ret (pe_tup (pa_cons pe_bl (pa_cons (pv 2) (pa_cons (pv 3) pa_nil)))))) pss_nil) (pss_cons 
  (ps_if (pt_cmpR op_eq (pv 5) pe_int (nomark _)) (pss_one 
    (ps_ret (pcal GP hr pass0 (pa_cons (pv 0) (pa_cons (pe_lst (pa_cons pe_non (pa_cons pe_int (pa_cons pe_str (pa_cons pe_str (pa_cons pe_bl pa_nil)))))) pa_nil))))) pss_nil) (pss_one 
  (ps_ret (pe_tup pa_nil))))))))))))))), ?_⟩
    refine ⟨_, rfl, _, rfl, h, q, _, rfl, by omega, by omega, hh, fun p H1 p0 p1 b1 h1 => ?_⟩
    refine ⟨_, rfl, _, rfl, h, q, _, rfl, by omega, by omega, h1, fun r H2 r0 r1 b2 h2 => ?_⟩
    refine ⟨_, rfl, _, rfl, _, rfl, _, rfl, _, _, rfl, rfl, ⟨by decide, by decide, by decide⟩, h, q, _, rfl, by decide, by decide, h2, fun x H3 x0 x1 b3 h3 => ?_⟩
    refine ⟨_, _, rfl, rfl, _, rfl, _, rfl, _, rfl, _, _, rfl, rfl, ⟨by decide, by decide, by decide⟩, h, q, _, rfl, by decide, by decide, h3, fun y H4 y0 y1 b4 h4 => ?_⟩
    refine ⟨_, _, rfl, rfl, (by show 1 ≤ sizeLine; decide), fun z hz => ⟨(by show 7 ≤ sizeLine; decide), fun l hl => ?_⟩⟩
    have T1 : upd H4 z (.tup [.int 0]) z = some (.tup [.int 0]) := upd_same
    have B5 := But.new (h := h) (o := .tup [.int 0]) hz
    have h5 := h4.new (o := .tup [.int 0]) hz
    generalize upd H4 z (.tup [.int 0]) = H5 at T1 B5 h5 hl
    have nlh : l ≠ h := fun e => by
      obtain ⟨_, _, _, _, e1, _⟩ := h5
      rw [e, e1] at hl
      cases hl
    have T2 := (new_same (o := .lst [.int (m : Nat), .int ((m : Nat) + x), .int (-1), .int (-1 - y), .non, .str (Str.ofString "0"), .ref z]) hl) _ _ T1
    have B6 := B5.trans (But.new (h := h) (o := .lst [.int (m : Nat), .int ((m : Nat) + x), .int (-1), .int (-1 - y), .non, .str (Str.ofString "0"), .ref z]) hl)
    have h6 := h5.new (o := .lst [.int (m : Nat), .int ((m : Nat) + x), .int (-1), .int (-1 - y), .non, .str (Str.ofString "0"), .ref z]) hl
    refine ⟨h, q, l, _, rfl, h6, nlh, upd_same, (by show 0 < 7; decide), (by show 7 ≤ 1000; decide), fun H7 o mo b7 h7 => ?_⟩
    have nzh : z ≠ h := fun e => by
      obtain ⟨_, _, _, _, e1, _⟩ := h5
      rw [← e, T1] at e1
      cases e1
    have T7 := b7 _ _ nzh T2
    have it : ∀ H', But h H7 H' → Itm K H' o ∧ Odd m o := by
      intro H' S
      simp only [List.mem_cons, List.not_mem_nil, or_false] at mo
      rcases mo with rfl | rfl | rfl | rfl | rfl | rfl | rfl
      · exact ⟨itm_int _, odd_int (.inr (Int.le_refl _))⟩
      · exact ⟨itm_int _, odd_int (.inr (by omega))⟩
      · exact ⟨itm_int _, odd_int (.inl (by decide))⟩
      · exact ⟨itm_int _, odd_int (.inl (by omega))⟩
      · exact ⟨itm_non, odd_sc fun n e => by cases e⟩
      · exact ⟨⟨⟨.sc _, rfl, rfl⟩, .str (Str.ofString "0"), by simp only [PyData.canLay0]; decide +kernel, by simp [PyData.depth], fun _ _ => .str _⟩, odd_sc fun n e => by cases e⟩
      · exact ⟨itm_tup (S _ _ nzh T7), odd_sc fun n e => by cases e⟩
    have B7 : But h H H7 := ((((b1.trans b2).trans b3).trans b4).trans B6).trans b7
    clear mo
    refine ⟨_, rfl, h, q, 9, rfl, by decide, by decide, h7, fun u H8 u0 u1 b8 h8 => ?_⟩
    have B8 := B7.trans b8
    have O : Odd m o := (it _ b8).2
    refine ⟨_, rfl, rfl, _, rfl, ?_⟩
    refine ifD (fun c => ?_) (fun c => ?_)
    · refine ⟨_, rfl, _, rfl, (by show 2 ≤ sizeLine; decide), fun a ha => ?_⟩
      refine k _ _ (.lst [.int p, .int r]) (B8.trans (But.new ha)) (h8.new ha) (badT_lst upd_same (fun y hy => ?_) (fun ns hn => rfl))
      have N := new_same (o := .lst [.int p, .int r]) ha
      simp only [List.mem_cons, List.not_mem_nil, or_false] at hy
      rcases hy with rfl | rfl
      · exact itm_int _
      · exact itm_int _
    refine ⟨_, rfl, rfl, _, rfl, ?_⟩
    refine ifD (fun c => ?_) (fun c => ?_)
    · refine ⟨_, rfl, _, rfl, _, rfl, _, rfl, (by show 4 ≤ sizeLine; decide), fun a ha => ?_⟩
      refine k _ _ (.tup [.int p, .int r, .int p, .int r]) (B8.trans (But.new ha)) (h8.new ha) (badT_tup upd_same (fun y hy => ?_) (fun ns hn => rfl))
      have N := new_same (o := .tup [.int p, .int r, .int p, .int r]) ha
      simp only [List.mem_cons, List.not_mem_nil, or_false] at hy
      rcases hy with rfl | rfl | rfl | rfl
      · exact itm_int _
      · exact itm_int _
      · exact itm_int _
      · exact itm_int _
    refine ⟨_, rfl, rfl, _, rfl, ?_⟩
    refine ifD (fun c => ?_) (fun c => ?_)
    · refine ⟨_, rfl, _, rfl, _, rfl, (by show 3 ≤ sizeLine; decide), fun a ha => ?_⟩
      refine k _ _ (.tup [o, .int p, .int r]) (B8.trans (But.new ha)) (h8.new ha) (badT_tup upd_same (fun y hy => ?_) (fun ns hn => all3 (.inl (O ns hn))))
      have N := new_same (o := .tup [o, .int p, .int r]) ha
      simp only [List.mem_cons, List.not_mem_nil, or_false] at hy
      rcases hy with rfl | rfl | rfl
      · exact (it _ (b8.trans (But.new ha))).1
      · exact itm_int _
      · exact itm_int _
    refine ⟨_, rfl, rfl, _, rfl, ?_⟩
    refine ifD (fun c => ?_) (fun c => ?_)
    · refine ⟨_, rfl, _, rfl, _, rfl, (by show 3 ≤ sizeLine; decide), fun a ha => ?_⟩
      refine k _ _ (.lst [.int p, o, .int r]) (B8.trans (But.new ha)) (h8.new ha) (badT_lst upd_same (fun y hy => ?_) (fun ns hn => all3 (.inr (.inl (O ns hn)))))
      have N := new_same (o := .lst [.int p, o, .int r]) ha
      simp only [List.mem_cons, List.not_mem_nil, or_false] at hy
      rcases hy with rfl | rfl | rfl
      · exact itm_int _
      · exact (it _ (b8.trans (But.new ha))).1
      · exact itm_int _
    refine ⟨_, rfl, rfl, _, rfl, ?_⟩
    refine ifD (fun c => ?_) (fun c => ?_)
    · refine ⟨_, rfl, _, rfl, _, rfl, (by show 3 ≤ sizeLine; decide), fun a ha => ?_⟩
      refine k _ _ (.tup [.int p, .int r, o]) (B8.trans (But.new ha)) (h8.new ha) (badT_tup upd_same (fun y hy => ?_) (fun ns hn => all3 (.inr (.inr (O ns hn)))))
      have N := new_same (o := .tup [.int p, .int r, o]) ha
      simp only [List.mem_cons, List.not_mem_nil, or_false] at hy
      rcases hy with rfl | rfl | rfl
      · exact itm_int _
      · exact itm_int _
      · exact (it _ (b8.trans (But.new ha))).1
    refine ⟨_, rfl, rfl, _, rfl, ?_⟩
    refine ifD (fun c => ?_) (fun c => ?_)
    · refine ⟨_, rfl, _, rfl, (by show 3 ≤ sizeLine; decide), fun a ha => ?_⟩
      refine k _ _ (.lst [.int p, .int r, .bl true]) (B8.trans (But.new ha)) (h8.new ha) (badT_lst upd_same (fun y hy => ?_) (fun ns hn => all3 (.inr (.inr (odd_sc (m := m) (y := .bl true) (fun n e => by cases e) ns hn)))))
      have N := new_same (o := .lst [.int p, .int r, .bl true]) ha
      simp only [List.mem_cons, List.not_mem_nil, or_false] at hy
      rcases hy with rfl | rfl | rfl
      · exact itm_int _
      · exact itm_int _
      · exact itm_bl _
    refine ⟨_, rfl, rfl, _, rfl, ?_⟩
    refine ifD (fun c => ?_) (fun c => ?_)
    · refine ⟨_, rfl, _, rfl, (by show 3 ≤ sizeLine; decide), fun a ha => ?_⟩
      refine k _ _ (.tup [.bl false, .int p, .int r]) (B8.trans (But.new ha)) (h8.new ha) (badT_tup upd_same (fun y hy => ?_) (fun ns hn => all3 (a := .bl false) (b := .int p) (c := .int r) (.inl (odd_sc (m := m) (y := .bl false) (fun n e => by cases e) ns hn))))
      have N := new_same (o := .tup [.bl false, .int p, .int r]) ha
      simp only [List.mem_cons, List.not_mem_nil, or_false] at hy
      rcases hy with rfl | rfl | rfl
      · exact itm_bl _
      · exact itm_int _
      · exact itm_int _
    refine ⟨_, rfl, rfl, _, rfl, ?_⟩
    refine ifD (fun c => ?_) (fun c => ?_)
    · refine ⟨_, rfl, (by show 5 ≤ sizeLine; decide), fun l2 hl2 => ?_⟩
      have nl2 : l2 ≠ h := fun e => by
        obtain ⟨_, _, _, _, e1, _⟩ := h8
        rw [e, e1] at hl2
        cases hl2
      have B9 := B8.trans (But.new (h := h) (o := .lst [.non, .int 0, .str (Str.ofString "000"), .str (Str.ofString "abc"), .bl true]) hl2)
      refine ⟨h, q, l2, _, rfl, h8.new hl2, nl2, upd_same, (by show 0 < 5; decide), (by show 5 ≤ 1000; decide), fun H10 v mv b10 h10 => ?_⟩
      refine k _ v (.sc v) (B9.trans b10) h10 ?_
      simp only [List.mem_cons, List.not_mem_nil, or_false] at mv
      rcases mv with rfl | rfl | rfl | rfl | rfl
      · exact badT_sc (d := .none) rfl (by simp [PyData.canLay0]) (by simp [PyData.depth]) (by simp [PyData.eqv]) fun _ => .non
      · exact badT_sc (d := .int 0) rfl (by simp [PyData.canLay0]) (by simp [PyData.depth]) (by simp [PyData.eqv]) fun _ => .int 0
      · exact badT_sc (d := .str (Str.ofString "000")) rfl (by simp only [PyData.canLay0]; decide +kernel) (by simp [PyData.depth]) (by simp [PyData.eqv]) fun _ => .str _
      · exact badT_sc (d := .str (Str.ofString "abc")) rfl (by simp only [PyData.canLay0]; decide +kernel) (by simp [PyData.depth]) (by simp [PyData.eqv]) fun _ => .str _
      · exact badT_sc (d := .bool true) rfl (by simp [PyData.canLay0]) (by simp [PyData.depth]) (by simp [PyData.eqv]) fun _ => .bl true
    · refine ⟨(by show 0 ≤ sizeLine; decide), fun a ha => ?_⟩
      exact k _ _ (.tup []) (B8.trans (But.new ha)) (h8.new ha) (badT_tup upd_same (fun y hy => by cases hy) (fun ns hn => rfl))
theorem no_three {ns : List Int} {s : Sh} (h : threeB ns s = false) {A : Prop} {p q r : Int} (e : items s = [.int p, .int q, .int r]) (ip : InT ns p) (iq : InT ns q) (ir : InT ns r) : A := by
  have t : ([V.int p, .int q, .int r] : List V).all (tieB ns) = true := by
    simp only [List.all_cons, List.all_nil, tie_in ip, tie_in iq, tie_in ir, Bool.and_self]
  cases s with
  | sc u => cases e
  | dk => cases e
  | lst xs =>
    obtain rfl : xs = _ := e
    have q : (decide (([V.int p, .int q, .int r] : List V).length = 3) && ([V.int p, .int q, .int r] : List V).all (tieB ns)) = false := h
    rw [t] at q
    cases q
  | tup xs =>
    obtain rfl : xs = _ := e
    have q : (decide (([V.int p, .int q, .int r] : List V).length = 3) && ([V.int p, .int q, .int r] : List V).all (tieB ns)) = false := h
    rw [t] at q
    cases q
theorem iteT' {b : Bool} {A B : Prop} (e : b = true) (h : A) : if b = true then A else B := by
  rw [if_pos e]
  exact h
abbrev s_Lrefused : Stmt := top 28
theorem sc_Lrefused : FnScope ["_law_ties", "_law_thing", "_law_met", "e"] ["_law_ties", "_law_thing"] (defScope s_Lrefused) := ⟨rfl, rfl, rfl, by decide +kernel, rfl, by decide +kernel, by decide +kernel⟩
def spRef (K : PySem.W.Frag) (C : Addr) : Sp := fun vs H Q _ => ∃ (x : Addr) (ns : List Int) (v : V) (s : Sh), vs = [.ref x, v] ∧ TiesAt C H x ns ∧ GoodB ns ∧ BadT K ns.length H v s ∧ ∀ H', Same H H' → Q (.bl true) H'
theorem ok_Lrefused {f C CT CG fR fL fI fN fX : Addr} {fd fdR fdL fdI fdN fdX : FuncData} (F : Fun K "_law_refused" "_law_refused" s_Lrefused f fd) (nis : mg "isinstance" = none) (GR : Cal P w K mg base (L2.CX P w) 4 "readings_of" fR fdR ["ties", "three"] (spReadings C CT))
    (GL : Cal P w K mg base (L2.CX P w) 5 "least_reading" fL fdL ["ties", "three"] (spLeast C CT)) (GI : Cal P w K mg base CX0 3 "is_three" fI fdI ["ties", "thing"] (spThree C)) (GN : Cal P w K mg base CX0 1 "_law_plain" fN fdN ["_law_answer", "_law_due"] spP0)
    (GT : Ex P w K mg base "NoThree" "three" CT fX fdX ["self", "three"]) (XC : ExcC K CT) (mG : mg "GuestError" = some (.ref CG)) (kg : PySem.W.kitOne K (.ref CT) (.ref CG) = some true) : FnOk P w K mg base CX0 6 f fd ["_law_ties", "_law_thing"] (spRef K C) := by
  refine F.ok sc_Lrefused (fun vs H Q E h => ?_) (fun cdv A outer s H vs Q E hr h => ?_)
  · obtain ⟨x, ns, v, s, rfl, _⟩ := h
    rfl
  · obtain ⟨x, ns, v, s, rfl, hT, gb, hB, k⟩ := h
    refine ⟨_, (pss_cons 
  (ps_set (i := 2) sc_Lrefused.nd rfl (Or.inl rfl) pe_int) (pss_cons 
  (ps_try_as (i := 3) (Wout := fun _ _ _ _ => False) rfl rfl sc_Lrefused.nd rfl rfl ⟨rfl, by decide, Or.inl GT.m⟩ takes0 (fun W pn xe tk _ => (pss_one 
    (ps_expr (by exact (pe_callS GR.F (hr.mono (by decide)) (by rfl) GR.m GR.kp GR.b (fun σ => passAt tk σ) (by exact (pa_cons (pv 0) (pa_cons (pv 1) pa_nil)))))))) (fun a oe cls d pn hz hf => (pss_one 
    (ps_if (PW.pt (pw_and (pt_val (pe_callB (id := "isinstance") (r := rIsX K CT a cls d) (call_isX XC hz hf) (by rfl) nis (by decide +kernel) (pa_cons (pv 3) (pa_cons (pe_glob (v := .ref CG) rfl mG rfl) pa_nil)))) (pw_and1 (pt_cmpR (r := rEqD K) (op_eqD hr.units) (pe_xf GT.xf GT.no hz hf (pv 3)) (pv 1) (nomark _))))) (pss_one 
      (ps_set (i := 2) sc_Lrefused.nd rfl (Or.inl rfl) (pe_op op_add (pv 2) pe_int))) pss_nil)))) (pss_cons 
  (ps_try_as (i := 3) (Wout := fun _ _ _ _ => False) rfl rfl sc_Lrefused.nd rfl rfl ⟨rfl, by decide, Or.inl GT.m⟩ takes0 (fun W pn xe tk _ => (pss_one 
    (ps_expr (by exact (pe_callS GL.F (hr.mono (by decide)) (by rfl) GL.m GL.kp GL.b (fun σ => passAt tk σ) (by exact (pa_cons (pv 0) (pa_cons (pv 1) pa_nil)))))))) (fun a oe cls d pn hz hf => (pss_one 
    (ps_if (pt_cmpR (r := rEqD K) (op_eqD hr.units) (pe_xf GT.xf GT.no hz hf (pv 3)) (pv 1) (nomark _)) (pss_one 
      (ps_set (i := 2) sc_Lrefused.nd rfl (Or.inl rfl) (pe_op op_add (pv 2) pe_int))) pss_nil)))) (pss_one 
  (ps_ret (pe_and (pe_cmpR op_eq (pv 2) pe_int (nomark _)) (pe_one (pcal GN hr pass0 (pa_cons (pcal GI hr pass0 (pa_cons (pv 0) (pa_cons (pv 1) pa_nil))) (pa_cons pe_bl pa_nil)))))))))), ?_⟩
    have hB' := id hB
    obtain ⟨hv, kn, nt3, D, sh, ev, dp⟩ := hB'
    have no3 : ∀ {A : Prop} (p q r : Int), items s = [.int p, .int q, .int r] → InT ns p → InT ns q → InT ns r → A := fun p q r e ip iq ir => no_three (nt3 ns rfl) e ip iq ir
    refine ⟨_, rfl, _, rfl, x, ns, v, s, rfl, hT, gb, hv, kn, fun _ d H1 nd S1 e => ?_, fun p q r ei ip iq ir => no3 p q r ei ip iq ir⟩
    refine ⟨true, GT.te, fun _ a ha => ?_, fun q => nomatch q⟩
    refine ⟨_, rfl, _, _, true, d, _, rfl, rfl, rfl, e, .own CG, kg, _, rfl, if_tr rfl ?_⟩
    refine ⟨_, rfl, rfl, rfl, d, _, v, rfl, e, by simp [List.lookup], _, rfl, D, D, dp _ S1, dp _ S1, sh, sh, _, rfl, ?_⟩
    refine iteT' ev ?_
    refine ⟨_, rfl, _, _, rfl, rfl, ?_⟩
    refine ⟨_, rfl, _, rfl, x, ns, v, s, rfl, hT.keep S1, gb, hv.keep S1, kn.keep S1, fun _ d2 H2 nd2 S2 e2 => ?_, fun p q r ei ip iq ir => no3 p q r ei ip iq ir⟩
    have S12 := S1.trans S2
    refine ⟨true, GT.te, fun _ a2 ha2 => ?_, fun q => nomatch q⟩
    refine ⟨_, rfl, rfl, rfl, d2, _, v, rfl, e2, by simp [List.lookup], _, rfl, D, D, dp _ S12, dp _ S12, sh, sh, _, rfl, ?_⟩
    refine iteT' ev ?_
    refine ⟨_, rfl, _, _, rfl, rfl, ?_⟩
    refine ⟨_, rfl, rfl, _, rfl, if_tr rfl ?_⟩
    refine ⟨_, rfl, _, rfl, x, ns, v, s, rfl, hT.keep S12, hv.keep S12, kn.keep S12, fun H3 S3 => ?_⟩
    rw [nt3 ns rfl]
    exact ⟨.inr ⟨false, rfl⟩, k _ (S12.trans S3)⟩
end
end J

set_option Elab.async false
set_option linter.all false
set_option maxRecDepth 100000
set_option maxHeartbeats 8000000
namespace J
open PySem PySem.Spec PyProof.Rows L2
/-! ### ascending lists, readings once more -/
theorem asc_unique {α : Type} {f : α → Int} : ∀ {L1 L2 : List α}, L1.Pairwise (fun a b => f a < f b) → L2.Pairwise (fun a b => f a < f b) → (∀ x, x ∈ L1 ↔ x ∈ L2) → L1 = L2
  | [], [], _, _, _ => rfl
  | [], y :: ys, _, _, h => by
    have := (h y).mpr List.mem_cons_self
    cases this
  | x :: xs, [], _, _, h => by
    have := (h x).mp List.mem_cons_self
    cases this
  | x :: xs, y :: ys, h1, h2, h => by
    rw [List.pairwise_cons] at h1 h2
    have e : x = y := by
      have a := (h x).mp List.mem_cons_self
      have b := (h y).mpr List.mem_cons_self
      rw [List.mem_cons] at a b
      rcases a with a | a
      · exact a
      · rcases b with b | b
        · exact b.symm
        · have := h1.1 _ b
          have := h2.1 _ a
          omega
    subst e
    have t : xs = ys := asc_unique h1.2 h2.2 fun z => by
      have q := h z
      rw [List.mem_cons, List.mem_cons] at q
      constructor
      · intro m
        rcases q.mp (.inr m) with e | e
        · subst e
          have := h1.1 _ m
          omega
        · exact e
      · intro m
        rcases q.mpr (.inr m) with e | e
        · subst e
          have := h2.1 _ m
          omega
        · exact e
    rw [t]
theorem rdl_unique {ns : List Int} {p q r : Int} {L L' : List (List Int)} (a : RdL ns p q r L) (b : RdL ns p q r L') : L = L' := asc_unique a.1 b.1 fun x => by rw [a.2, b.2]
theorem six_same {ns : List Int} {p q r a b c : Int} (g : GoodB ns) (ip : InT ns p) (iq : InT ns q) (ir : InT ns r) (h : [a, b, c] ∈ six ns p q r) : ∀ x, x ∈ six ns a b c ↔ x ∈ six ns p q r := by
  have e1 := bk_bk g ip
  have e2 := bk_bk g iq
  have e3 := bk_bk g ir
  intro x
  simp only [six, List.mem_cons, List.not_mem_nil, or_false, List.cons.injEq, and_true] at h
  rcases h with ⟨rfl, rfl, rfl⟩ | ⟨rfl, rfl, rfl⟩ | ⟨rfl, rfl, rfl⟩ | ⟨rfl, rfl, rfl⟩ | ⟨rfl, rfl, rfl⟩ | ⟨rfl, rfl, rfl⟩ <;>
    (simp only [six, List.mem_cons, List.not_mem_nil, or_false, e1, e2, e3]
     try (constructor <;> (rintro (h | h | h | h | h | h) <;> simp [h])))
theorem rdl_same {ns : List Int} {p q r a b c : Int} {L : List (List Int)} (g : GoodB ns) (ip : InT ns p) (iq : InT ns q) (ir : InT ns r) (h : [a, b, c] ∈ six ns p q r) (R : RdL ns a b c L) : RdL ns p q r L := ⟨R.1, fun x => by rw [R.2, six_same g ip iq ir h]⟩
theorem rdl_same' {ns : List Int} {p q r a b c : Int} {L : List (List Int)} (g : GoodB ns) (ip : InT ns p) (iq : InT ns q) (ir : InT ns r) (h : [a, b, c] ∈ six ns p q r) (R : RdL ns p q r L) : RdL ns a b c L := ⟨R.1, fun x => by rw [R.2, six_same g ip iq ir h]⟩
theorem len_sub : ∀ {L S : List (List Int)}, L.Nodup → (∀ x ∈ L, x ∈ S) → L.length ≤ S.length
  | [], _, _, _ => Nat.zero_le _
  | x :: xs, S, n, h => by
    rw [List.nodup_cons] at n
    have m := h x List.mem_cons_self
    have := len_sub (L := xs) (S := S.erase x) n.2 fun y hy => by
      have ne : y ≠ x := fun e => n.1 (e ▸ hy)
      exact (List.mem_erase_of_ne ne).mpr (h y (List.mem_cons_of_mem _ hy))
    rw [List.length_erase_of_mem m] at this
    have := List.length_pos_of_mem m
    rw [List.length_cons]
    omega
theorem asc_nodup {f : List Int → Int} {L : List (List Int)} (h : L.Pairwise (fun a b => f a < f b)) : L.Nodup := h.imp fun {a b} q e => by
  subst e
  omega
theorem rdl_len {ns : List Int} {p q r : Int} {L : List (List Int)} (R : RdL ns p q r L) : L.length ≤ 6 := len_sub (S := six ns p q r) (asc_nodup R.1) fun x hx => (R.2 x).mp hx
theorem rdl_pos {ns : List Int} {p q r : Int} {L : List (List Int)} (R : RdL ns p q r L) : ∃ t L', L = t :: L' := by
  cases L with
  | nil =>
    have : [p, q, r] ∈ ([] : List (List Int)) := (R.2 _).mpr (by simp [six])
    cases this
  | cons t L' => exact ⟨t, L', rfl⟩
theorem A3_asc : ∀ n, n ≤ 4 → (A3 n n).Pairwise (fun a b => TS.code 4 a < TS.code 4 b) := by decide +kernel
theorem in_A3 {ns : List Int} {a b c : Int} (ia : InT ns a) (ib : InT ns b) (ic : InT ns c) : [a, b, c] ∈ A3 ns.length ns.length := by
  refine A3_mem.mpr ⟨a.toNat, b.toNat, c.toNat, ?_, ?_, ?_, ?_⟩
  · have := ia.1; have := ia.2; omega
  · have := ib.1; have := ib.2; omega
  · have := ic.1; have := ic.2; omega
  · rw [Int.toNat_of_nonneg ia.1, Int.toNat_of_nonneg ib.1, Int.toNat_of_nonneg ic.1]
/-- the classes that were found among the first i threes -/
structure ClsF (ns : List Int) (i : Nat) (Cs : List (List Int)) : Prop where
  nd : Cs.Nodup
  sub : ∀ c ∈ Cs, c ∈ A3 ns.length ns.length ∧ isL ns c = true
  ex : ∀ (j : Nat) (p q r : Int), j < i → (A3 ns.length ns.length)[j]? = some [p, q, r] → ∃ L, RdL ns p q r L
  all : ∀ (j : Nat) (p q r : Int) (t : List Int) (L : List (List Int)), j < i → (A3 ns.length ns.length)[j]? = some [p, q, r] → RdL ns p q r (t :: L) → t ∈ Cs
theorem ClsF.nil {ns : List Int} : ClsF ns 0 [] := ⟨List.nodup_nil, fun c h => by (cases h), fun j p q r h => by omega, fun j p q r t L h => by omega⟩
theorem least_ok {ns : List Int} {p q r : Int} {t : List Int} {L : List (List Int)} (g : GoodB ns) (ip : InT ns p) (iq : InT ns q) (ir : InT ns r) (R : RdL ns p q r (t :: L)) : t ∈ A3 ns.length ns.length ∧ isL ns t = true := by
  have m := (R.2 t).mp List.mem_cons_self
  obtain ⟨a, b, c, rfl, ia, ib, ic⟩ := six_in g ip iq ir t m
  refine ⟨in_A3 ia ib ic, ?_⟩
  rw [← isL_iff (rdl_same' g ip iq ir m R)]
  exact decide_eq_true rfl
theorem ClsF.step {ns : List Int} {i : Nat} {Cs : List (List Int)} {p q r : Int} {t : List Int} {L : List (List Int)} (h : ClsF ns i Cs) (g : GoodB ns) (e : (A3 ns.length ns.length)[i]? = some [p, q, r]) (ip : InT ns p) (iq : InT ns q) (ir : InT ns r) (R : RdL ns p q r (t :: L)) :
    ClsF ns (i + 1) (if t ∈ Cs then Cs else Cs ++ [t]) := by
  have ok := least_ok g ip iq ir R
  have last : ∀ (p' q' r' : Int) (t' : List Int) (L' : List (List Int)), (A3 ns.length ns.length)[i]? = some [p', q', r'] → RdL ns p' q' r' (t' :: L') → t' = t := fun p' q' r' t' L' e' R' => by
    rw [e] at e'
    have e' := Option.some.inj e'
    injection e' with e1 e'
    injection e' with e2 e'
    injection e' with e3 e'
    subst e1 e2 e3
    have := rdl_unique R' R
    injection this
  have exs : ∀ (j : Nat) (p' q' r' : Int), j < i + 1 → (A3 ns.length ns.length)[j]? = some [p', q', r'] → ∃ L, RdL ns p' q' r' L := fun j p' q' r' hj e' => by
    rcases Nat.lt_or_ge j i with hi | hi
    · exact h.ex j p' q' r' hi e'
    · obtain rfl : j = i := by omega
      rw [e] at e'
      have e' := Option.some.inj e'
      injection e' with e1 e'
      injection e' with e2 e'
      injection e' with e3 e'
      subst e1 e2 e3
      exact ⟨_, R⟩
  by_cases c : t ∈ Cs
  · rw [if_pos c]
    refine ⟨h.nd, h.sub, exs, fun j p' q' r' t' L' hj e' R' => ?_⟩
    rcases Nat.lt_or_ge j i with hi | hi
    · exact h.all j p' q' r' t' L' hi e' R'
    · obtain rfl : j = i := by omega
      rw [last p' q' r' t' L' e' R']
      exact c
  · rw [if_neg c]
    refine ⟨?_, fun x hx => ?_, exs, fun j p' q' r' t' L' hj e' R' => ?_⟩
    · rw [List.nodup_append]
      exact ⟨h.nd, by simp, fun a ha b hb => by rw [List.mem_singleton] at hb; subst hb; exact fun e => c (e ▸ ha)⟩
    · rw [List.mem_append, List.mem_singleton] at hx
      rcases hx with hx | rfl
      · exact h.sub x hx
      · exact ok
    · rw [List.mem_append, List.mem_singleton]
      rcases Nat.lt_or_ge j i with hi | hi
      · exact .inl (h.all j p' q' r' t' L' hi e' R')
      · obtain rfl : j = i := by omega
        exact .inr (last p' q' r' t' L' e' R')
theorem A3_len3 : ∀ n, n ≤ 3 → (A3 n n).length ≤ 27 := by decide +kernel
theorem not_isL {ns : List Int} (g : GoodB ns) (h4 : ns.length = 4) : isL ns [3, 0, 0] = false := by
  have i0 : InT ns 0 := ⟨by omega, by omega⟩
  have b0 := bk_in g i0
  show ((six ns 3 0 0).all fun x => decide (TS.code 4 [3, 0, 0] ≤ TS.code 4 x)) = false
  rw [List.all_eq_false]
  refine ⟨[0, bk ns 0, 3], by simp [six], fun z => ?_⟩
  have z := of_decide_eq_true z
  have := b0.1
  have := b0.2
  simp only [TS.code] at z
  simp at z
  omega
theorem ClsF.len {ns : List Int} {i : Nat} {Cs : List (List Int)} (h : ClsF ns i Cs) (g : GoodB ns) : Cs.length < 64 := by
  rcases Nat.lt_or_ge ns.length 4 with n3 | n4
  · have := len_sub h.nd fun x hx => (h.sub x hx).1
    have := A3_len3 ns.length (by omega)
    omega
  · have h4 : ns.length = 4 := by have := g.hi; omega
    have i0 : InT ns 0 := ⟨by omega, by omega⟩
    have i3 : InT ns 3 := ⟨by omega, by omega⟩
    have m := in_A3 i3 i0 i0
    have := len_sub (S := (A3 ns.length ns.length).erase [3, 0, 0]) h.nd fun x hx => by
      have ne : x ≠ [3, 0, 0] := fun e => by
        have := (h.sub x hx).2
        rw [e, not_isL g h4] at this
        cases this
      exact (List.mem_erase_of_ne ne).mpr (h.sub x hx).1
    rw [List.length_erase_of_mem m] at this
    have := A3_len ns.length g.hi
    have := List.length_pos_of_mem m
    omega
/-- the classes, sorted, are the least readings -/
theorem ClsF.sorted {ns : List Int} {Cs Ds : List (List Int)} (h : ClsF ns (A3 ns.length ns.length).length Cs) (g : GoodB ns) (pm : Ds.Perm Cs) (pw : Ds.Pairwise (fun a b => TS.code 4 a < TS.code 4 b)) : Ds = (A3 ns.length ns.length).filter (isL ns) := by
  refine asc_unique pw ((A3_asc ns.length g.hi).filter _) fun x => ?_
  rw [pm.mem_iff, List.mem_filter]
  refine ⟨fun m => h.sub x m, fun ⟨m, l⟩ => ?_⟩
  obtain ⟨p, q, r, rfl, ip, iq, ir⟩ := A3_in m rfl
  obtain ⟨j, hj⟩ := List.getElem?_of_mem m
  obtain ⟨L, R⟩ := h.ex j p q r (List.getElem?_eq_some_iff.mp hj).1 hj
  obtain ⟨t, L', rfl⟩ := rdl_pos R
  have tm := h.all j p q r t L' (List.getElem?_eq_some_iff.mp hj).1 hj R
  have := isL_iff R
  rw [l] at this
  rw [of_decide_eq_true this]
  exact tm
theorem LstsAt.app {H H' : Hp} {z w u : Addr} {L M : List (List Int)} {xs ys : List V} (hz : LstsAt H z L) (hw : LstsAt H w M) (ex : H z = some (.lst xs)) (ey : H w = some (.lst ys)) (S : Same H H') (e : H' u = some (.lst (xs ++ ys))) : LstsAt H' u (L ++ M) := by
  obtain ⟨ps, a1, a2, a3⟩ := hz
  obtain ⟨qs, b1, b2, b3⟩ := hw
  rw [a1] at ex
  rw [b1] at ey
  obtain rfl : _ = xs := HO.lst.inj (Option.some.inj ex)
  obtain rfl : _ = ys := HO.lst.inj (Option.some.inj ey)
  refine ⟨ps ++ qs, by rw [e, List.map_append], by rw [List.length_append, List.length_append, a2, b2], fun j a ts q1 q2 => ?_⟩
  rcases Nat.lt_or_ge j ps.length with hj | hj
  · rw [List.getElem?_append_left hj] at q1
    rw [List.getElem?_append_left (by omega)] at q2
    exact S _ _ (a3 j a ts q1 q2)
  · rw [List.getElem?_append_right hj] at q1
    rw [List.getElem?_append_right (by omega), ← a2] at q2
    exact S _ _ (b3 _ a ts q1 q2)
theorem Gro.lsts {H1 H : Hp} {D : Addr} {L : List (List Int)} (G : Gro H1 H D L) : LstsAt H D L := by
  obtain ⟨ps, a, b, c⟩ := G.d
  exact ⟨ps, a, b, fun j x ts e1 e2 => (c j x ts e1 e2).2⟩
/-- all but two lists stand -/
def Fr (h cl : Addr) (H H' : Hp) : Prop := ∀ a o, a ≠ h → a ≠ cl → H a = some o → H' a = some o
theorem Fr.but {h cl : Addr} {H H1 H2 : Hp} (f : Fr h cl H H1) (b : But h H1 H2) : Fr h cl H H2 := fun a o n1 n2 e => b a o n1 (f a o n1 n2 e)
theorem Fr.same {h cl : Addr} {H H1 H2 : Hp} (f : Fr h cl H H1) (S : Same H1 H2) : Fr h cl H H2 := fun a o n1 n2 e => S a o (f a o n1 n2 e)
theorem LstsAt.fr {h cl : Addr} {H H' : Hp} {z : Addr} {L : List (List Int)} {us vs : List V} (hz : LstsAt H z L) (eh : H h = some (.lst us)) (ec : H cl = some (.lst vs)) (n1 : z ≠ h) (n2 : z ≠ cl) (f : Fr h cl H H') : LstsAt H' z L := by
  obtain ⟨ps, a1, a2, a3⟩ := hz
  exact ⟨ps, f _ _ n1 n2 a1, a2, fun j a ts e1 e2 => f _ _ (ne_of (a3 j a ts e1 e2) eh (by intro z; cases z)) (ne_of (a3 j a ts e1 e2) ec (by intro z; cases z)) (a3 j a ts e1 e2)⟩
theorem LstsAt.but {h : Addr} {H H' : Hp} {z : Addr} {L : List (List Int)} {us : List V} (hz : LstsAt H z L) (eh : H h = some (.lst us)) (n1 : z ≠ h) (f : But h H H') : LstsAt H' z L := by
  obtain ⟨ps, a1, a2, a3⟩ := hz
  exact ⟨ps, f _ _ n1 a1, a2, fun j a ts e1 e2 => f _ _ (ne_of (a3 j a ts e1 e2) eh (by intro z; cases z)) (a3 j a ts e1 e2)⟩
theorem LstsAt.tup {H : Hp} {z w : Addr} {L : List (List Int)} {xs : List V} (hz : LstsAt H z L) (ex : H z = some (.lst xs)) (hw : H w = none) : TupsAt (upd H w (.tup xs)) w L := by
  obtain ⟨ps, a1, a2, a3⟩ := hz
  rw [a1] at ex
  obtain rfl : _ = xs := HO.lst.inj (Option.some.inj ex)
  exact ⟨ps, upd_same, a2, fun j a ts e1 e2 => new_same hw _ _ (a3 j a ts e1 e2)⟩
theorem LstsAt.data {K : PySem.W.Frag} {H : Hp} {z : Addr} {L : List (List Int)} (h : LstsAt H z L) : Dp K H (.ref z) (.list (tupsD L)) ∧ SeqAt.shaped (.list (tupsD L)) = true := by
  obtain ⟨ps, e1, e2, e3⟩ := h
  exact ⟨.lst (SqL.of e1) (dp_tupsD e2 e3), shaped_tupsD L⟩
theorem TiesAt.fr {C h cl : Addr} {H H' : Hp} {x : Addr} {ns us vs : List _} (T : TiesAt C H x ns) (eh : H h = some (.lst us)) (ec : H cl = some (.lst vs)) (f : Fr h cl H H') : TiesAt C H' x ns := by
  obtain ⟨dx, t, e1, e2⟩ := T
  exact ⟨dx, t, f _ _ (ne_of e1 eh (by intro z; cases z)) (ne_of e1 ec (by intro z; cases z)) e1, f _ _ (ne_of e2 eh (by intro z; cases z)) (ne_of e2 ec (by intro z; cases z)) e2⟩
theorem TiesAt.but {C h : Addr} {H H' : Hp} {x : Addr} {ns us : List _} (T : TiesAt C H x ns) (eh : H h = some (.lst us)) (f : But h H H') : TiesAt C H' x ns := by
  obtain ⟨dx, t, e1, e2⟩ := T
  exact ⟨dx, t, f _ _ (ne_of e1 eh (by intro z; cases z)) e1, f _ _ (ne_of e2 eh (by intro z; cases z)) e2⟩
/-- sorted(classes) -/
theorem sort_pre {K : PySem.W.Frag} {H : Hp} {cl : Addr} {ns : List Int} {Cs : List (List Int)} (hc : LstsAt H cl Cs) (h : ClsF ns (A3 ns.length ns.length).length Cs) (g : GoodB ns) :
    ∃ xs, H cl = some (.lst xs) ∧ xs.length < 64 ∧ (∀ x ∈ xs, ∃ ms, TupI K H x ms ∧ ms.length = 3 ∧ TS.Bd 4 ms) ∧
      ∀ (ys : List V) (z : Addr), ys.Perm xs → ys.Pairwise (fun x y => ∀ n m, TupI K H x n → TupI K H y m → TS.code 4 n ≤ TS.code 4 m) → H z = none → LstsAt (upd H z (.lst ys)) z ((A3 ns.length ns.length).filter (isL ns)) := by
  obtain ⟨ps, e1, e2, e3⟩ := hc
  have la := h.len g
  have BD : ∀ x ∈ Cs, x.length = 3 ∧ TS.Bd 4 x := fun x hx => by
    obtain ⟨p, q, r, rfl, ip, iq, ir⟩ := A3_in (h.sub x hx).1 rfl
    exact six_bd g ip iq ir _ (by simp [six])
  have inL : ∀ (j : Nat) (a : Addr), ps[j]? = some a → ∃ ts, Cs[j]? = some ts ∧ H a = some (.tup (ts.map V.int)) := fun j a ej => by
    have hj := (List.getElem?_eq_some_iff.mp ej).1
    have q := List.getElem?_eq_getElem (l := Cs) (i := j) (by omega)
    exact ⟨_, q, e3 j a _ ej q⟩
  refine ⟨_, e1, by rw [List.length_map, e2]; exact la, fun x hx => ?_, fun ys z pm pw hz => ?_⟩
  · obtain ⟨a, ha, rfl⟩ := List.mem_map.mp hx
    obtain ⟨j, hj⟩ := List.getElem?_of_mem ha
    obtain ⟨ts, q1, q2⟩ := inL j a hj
    obtain ⟨b1, b2⟩ := BD ts (List.mem_of_getElem? q1)
    exact ⟨ts, ⟨a, rfl, SqT.of q2⟩, b1, b2⟩
  · have zm : (ps.zip Cs).map (fun w => V.ref w.1) = ps.map V.ref := by
      rw [show (fun w : Addr × List Int => V.ref w.1) = V.ref ∘ Prod.fst from rfl, ← List.map_map, List.map_fst_zip (by omega)]
    rw [← zm] at pm
    obtain ⟨zs, pz, rfl⟩ := perm_map_inv pm rfl
    have zc : ∀ w ∈ zs, w.2 ∈ Cs ∧ H w.1 = some (.tup (w.2.map V.int)) := fun w hw => by
      have hw2 := pz.mem_iff.mp hw
      obtain ⟨j, hj⟩ := List.getElem?_of_mem hw2
      rw [List.getElem?_zip_eq_some] at hj
      obtain ⟨h1, h2⟩ := hj
      exact ⟨List.mem_of_getElem? h2, e3 j _ _ h1 h2⟩
    have p2 : (zs.map Prod.snd).Perm Cs := by
      have := pz.map Prod.snd
      rwa [List.map_snd_zip (by omega)] at this
    have T' : Same H (upd H z (.lst (zs.map fun w => V.ref w.1))) := new_same hz
    have asc : (zs.map Prod.snd).Pairwise (fun a b => TS.code 4 a < TS.code 4 b) := by
      have nd2 : (zs.map Prod.snd).Nodup := p2.nodup_iff.mpr h.nd
      rw [List.pairwise_map]
      have nd' : zs.Pairwise fun a b => a.2 ≠ b.2 := by
        have : (zs.map Prod.snd).Pairwise (· ≠ ·) := nd2
        rwa [List.pairwise_map] at this
      rw [List.pairwise_map] at pw
      refine (pw.and nd').imp_of_mem fun {a b} ma mb hh => ?_
      obtain ⟨h1, h2⟩ := hh
      obtain ⟨a1, a2⟩ := zc a ma
      obtain ⟨b1, b2⟩ := zc b mb
      have h1 := h1 a.2 b.2 ⟨a.1, rfl, SqT.of a2⟩ ⟨b.1, rfl, SqT.of b2⟩
      rcases Int.lt_or_eq_of_le h1 with h3 | h3
      · exact h3
      · obtain ⟨l1, c1⟩ := BD _ a1
        obtain ⟨l2, c2⟩ := BD _ b1
        exact absurd (code_inj (by omega) c1 c2 h3) h2
    rw [← h.sorted g p2 asc]
    refine ⟨zs.map Prod.fst, by rw [upd_same, List.map_map]; rfl, by rw [List.length_map, List.length_map], fun j a ts q1 q2 => ?_⟩
    rw [List.getElem?_map] at q1 q2
    cases ej : zs[j]? with
    | none => rw [ej] at q1; cases q1
    | some w =>
      rw [ej] at q1 q2
      obtain rfl := Option.some.inj q1
      obtain rfl := Option.some.inj q2
      exact T' _ _ (zc w (List.mem_of_getElem? ej)).2
theorem made_same {H : Hp} {x dx : Addr} {o u : HO} (hx : H x = none) (hd : H dx = none) : Same H (upd (upd H dx o) x u) := fun b v e => by
  rw [upd_ne (ne_of_none e hx), upd_ne (ne_of_none e hd)]
  exact e
theorem made_but {H H' : Hp} {x dx : Addr} {o u : HO} (hx : H x = none) (hd : H dx = none) (B : ∀ b v, b ≠ x → (upd (upd H dx o) x u) b = some v → H' b = some v) : Same H H' := fun b v e => B b v (ne_of_none e hx) (made_same hx hd b v e)
theorem map_int_inj : ∀ {xs ys : List Int}, xs.map V.int = ys.map V.int → xs = ys
  | [], [], _ => rfl
  | [], _ :: _, h => by cases h
  | _ :: _, [], h => by cases h
  | x :: xs, y :: ys, h => by
    rw [List.map_cons, List.map_cons] at h
    injection h with h1 h2
    injection h1 with h1
    rw [h1, map_int_inj h2]
theorem mk_ties {C CB : Addr} {H : Hp} {E : XK} {R : Addr → VK} {ns : List Int} {v : V} {s : Sh} (hs : Is H v s) (g : GoodB ns) (hq : (s.isL || s.isT) = true) (hi : items s = ns.map V.int) (k : ∀ (H' : Hp) (x : Addr), Same H H' → H x = none → TiesAt C H' x ns → R x .non H') :
    ∀ x dx, H x = none → H dx = none → dx ≠ x → spTies C CB [.ref x, v] (upd (upd H dx (.own x)) x (.ins C dx [])) (R x) E := by
  intro x dx hx hd _
  have S := made_same (H := H) (o := .own x) (u := .ins C dx []) hx hd
  have dn : due s = none := by
    cases s with
    | sc u => cases hq
    | dk => cases hq
    | lst xs => have e : xs = ns.map V.int := hi; subst e; exact due_of g
    | tup xs => have e : xs = ns.map V.int := hi; subst e; exact due_of g
  refine ⟨x, dx, v, s, rfl, upd_same, hs.keep S, fun y hy => ?_, fun w e => ?_, fun ms _ e H' B T => ?_⟩
  · rw [hi] at hy
    obtain ⟨n, _, rfl⟩ := List.mem_map.mp hy
    exact ⟨.sc (.int n), rfl, rfl⟩
  · rw [dn] at e
    cases e
  · obtain rfl := map_int_inj (hi.symm.trans e)
    exact k H' x (made_but hx hd B) hx T
theorem But.free {h l : Addr} {H H' : Hp} (B : But h H H') (n : l ≠ h) (e : H' l = none) : H l = none := by
  cases q : H l with
  | none => rfl
  | some o =>
    have := B _ _ n q
    rw [e] at this
    cases this
theorem A_len2 : ∀ n, n ≤ 4 → ∀ i, i < n → ∀ j, j < n → (A3 n i ++ A2 n i j).length + (A1 i j n).length ≤ 64 := by decide +kernel
theorem LstsAt.push {H : Hp} {z d : Addr} {L : List (List Int)} {t : List Int} {ps : List Addr} (h : LstsAt H z L) (e : H z = some (.lst (ps.map V.ref))) (ed : H d = some (.tup (t.map V.int))) : LstsAt (upd H z (.lst (ps.map V.ref ++ [.ref d]))) z (L ++ [t]) := by
  obtain ⟨qs, e1, e2, e3⟩ := h
  rw [e1] at e
  have w : qs.map V.ref = ps.map V.ref := HO.lst.inj (Option.some.inj e)
  rw [← w]
  have nz : d ≠ z := ne_of ed e1 (by intro z; cases z)
  refine ⟨qs ++ [d], by rw [upd_same, List.map_append]; rfl, by rw [List.length_append, List.length_append, e2]; rfl, fun j a us q1 q2 => ?_⟩
  rcases Nat.lt_or_ge j qs.length with hj | hj
  · rw [List.getElem?_append_left hj] at q1
    rw [List.getElem?_append_left (by omega)] at q2
    have := e3 j a us q1 q2
    rw [upd_ne (ne_of this e1 (by intro z; cases z))]
    exact this
  · have hj2 : j = qs.length := by
      have := (List.getElem?_eq_some_iff.mp q1).1
      rw [List.length_append] at this
      have l : [d].length = 1 := rfl
      omega
    subst hj2
    rw [List.getElem?_append_right (Nat.le_refl _), Nat.sub_self] at q1
    rw [e2, List.getElem?_append_right (Nat.le_refl _), Nat.sub_self] at q2
    obtain rfl : d = a := Option.some.inj q1
    obtain rfl : t = us := Option.some.inj q2
    rw [upd_ne nz]
    exact ed
theorem map_ref_inj : ∀ {xs ys : List Addr}, xs.map V.ref = ys.map V.ref → xs = ys
  | [], [], _ => rfl
  | [], _ :: _, h => by cases h
  | _ :: _, [], h => by cases h
  | x :: xs, y :: ys, h => by
    rw [List.map_cons, List.map_cons] at h
    injection h with h1 h2
    injection h1 with h1
    rw [h1, map_ref_inj h2]
theorem ints3 {s : Sh} {p q r p' q' r' : Int} (e : items s = ([p, q, r] : List Int).map V.int) (e' : items s = [.int p', .int q', .int r']) : p' = p ∧ q' = q ∧ r' = r := by
  rw [e] at e'
  injection e' with e1 e'
  injection e' with e2 e'
  injection e' with e3 e'
  injection e1 with e1
  injection e2 with e2
  injection e3 with e3
  exact ⟨e1.symm, e2.symm, e3.symm⟩
theorem is_seq {K : PySem.W.Frag} {H : Hp} {z : Addr} {s : Sh} {ys : List V} (h : Is H (.ref z) s) (e : items s = ys) (sq : (s.isL || s.isT) = true) : SqL K H z ys ∨ SqT K H z ys := by
  cases s with
  | sc u => cases sq
  | dk => cases sq
  | lst xs =>
    obtain ⟨p, e1, e2⟩ := h
    obtain rfl : z = p := V.ref.inj e1
    obtain rfl : xs = ys := e
    exact .inl (SqL.of e2)
  | tup xs =>
    obtain ⟨p, e1, e2⟩ := h
    obtain rfl : z = p := V.ref.inj e1
    obtain rfl : xs = ys := e
    exact .inr (SqT.of e2)
theorem three_yes {ns : List Int} {s : Sh} {p q r : Int} (e : items s = ([p, q, r] : List Int).map V.int) (sq : (s.isL || s.isT) = true) (ip : InT ns p) (iq : InT ns q) (ir : InT ns r) : threeB ns s = true := by
  have t : ([V.int p, .int q, .int r] : List V).all (tieB ns) = true := by
    simp only [List.all_cons, List.all_nil, tie_in ip, tie_in iq, tie_in ir, Bool.and_self]
  cases s with
  | sc u => cases sq
  | dk => cases sq
  | lst xs =>
    obtain rfl : xs = _ := e
    show (decide (([V.int p, .int q, .int r] : List V).length = 3) && ([V.int p, .int q, .int r] : List V).all (tieB ns)) = true
    rw [t]
    rfl
  | tup xs =>
    obtain rfl : xs = _ := e
    show (decide (([V.int p, .int q, .int r] : List V).length = 3) && ([V.int p, .int q, .int r] : List V).all (tieB ns)) = true
    rw [t]
    rfl
theorem known_ints {H : Hp} {s : Sh} {ts : List Int} (e : items s = ts.map V.int) : Known H (items s) := by
  rw [e]
  exact ints_known ts
theorem Hand.same_h' {H : Hp} {h q z : Addr} (x : Hand H h q) (hz : H z = none) : z ≠ h ∧ z ≠ q := ⟨fun e => (x.h_ne hz).1 e.symm, fun e => (x.h_ne hz).2 e.symm⟩
end J

set_option Elab.async false
set_option linter.all false
set_option maxRecDepth 100000
set_option maxHeartbeats 16000000
namespace J
open PySem PySem.Spec PyProof.Rows L2
abbrev s_law : Stmt := top 29
theorem sc_law : FnScope ["_law_script", "_law_hand_here", "_law_many", "_law_backs_here", "_law_ties", "_law_threes", "_law_p", "_law_q", "_law_classes", "_law_three", "_law_due", "_law_handed", "_law_other", "_law_k", "_law_r"] ["_law_script"] (defScope s_law) := ⟨rfl, rfl, rfl, by decide +kernel, rfl, by decide +kernel, by decide +kernel⟩
def spLaw (K : PySem.W.Frag) : Sp := fun vs H Q _ => ∃ (a : Addr) (ns : List Int), vs = [.ref a] ∧ SqL K H a (ns.map V.int) ∧ ns.length ≤ 63 ∧ ∀ H', Q (.bl true) H'
section
variable {P : Program} {w : World} {K : PySem.W.Frag} {mg : Str → Option Value} {base : Heap}
theorem ok_law {f C CB CT fH fP fK fD fA fR fL fI fC fS fB fF fE fN0 fN1 fN2 fM : Addr} {fd fdH fdP fdK fdD fdA fdR fdL fdI fdC fdS fdB fdF fdE fdN0 fdN1 fdN2 fdM : FuncData} (F : Fun K "law" "law" s_law f fd) (nl : mg "len" = none) (nli : mg "list" = none) (nt : mg "tuple" = none) (nr : mg "range" = none) (nso : mg "sorted" = none)
    (GH : Cal P w K mg base CX0 1 "_law_hand" fH fdH ["_law_script"] (spHand K)) (GP : Cal P w K mg base CX0 3 "_law_pick" fP fdP ["_law_hand_here", "_law_things"] spPick) (GK : Cal P w K mg base CX0 3 "_law_backs" fK fdK ["_law_hand_here", "_law_many"] spBacks) (GD : Cal P w K mg base CX0 2 "_law_draw" fD fdD ["_law_hand_here", "_law_many"] spDraw)
    (mT : mg "Ties" = some (.ref C)) (MI : Mk K C fM) (FI : FnOk P w K mg base (L2.CX P w) 4 fM fdM ["self", "backs"] (spTies C CB)) (bI : Binds K fdM ["self", "backs"] [])
    (GA : Cal P w K mg base CX0 1 "all_threes" fA fdA ["ties"] (spAll C)) (GR : Cal P w K mg base (L2.CX P w) 4 "readings_of" fR fdR ["ties", "three"] (spReadings C CT)) (GL : Cal P w K mg base (L2.CX P w) 5 "least_reading" fL fdL ["ties", "three"] (spLeast C CT))
    (GI : Cal P w K mg base CX0 3 "is_three" fI fdI ["ties", "thing"] (spThree C)) (GC : Cal P w K mg base CX0 6 "reading_classes" fC fdC ["ties"] (spClasses C)) (GS : Cal P w K mg base CX0 1 "_law_shown" fS fdS ["_law_backs_here", "_law_p", "_law_q", "_law_r"] spShown) (GB : Cal P w K mg base CX0 3 "_law_shape" fB fdB ["_law_hand_here", "_law_row"] spShape)
    (GF : Cal P w K mg base CX0 6 "_law_refused" fF fdF ["_law_ties", "_law_thing"] (spRef K C)) (GE : Cal P w K mg base CX0 4 "_law_bad" fE fdE ["_law_hand_here", "_law_many"] (spBad K))
    (GN0 : Cal P w K mg base CX0 1 "_law_plain" fN0 fdN0 ["_law_answer", "_law_due"] spP0) (GN1 : Cal P w K mg base CX0 2 "_law_plain" fN1 fdN1 ["_law_answer", "_law_due"] spP1) (GN2 : Cal P w K mg base CX0 3 "_law_plain" fN2 fdN2 ["_law_answer", "_law_due"] spP2) : FnOk P w K mg base CX0 7 f fd ["_law_script"] (spLaw K) := by
  refine F.ok sc_law (fun vs H Q E h => ?_) (fun cdv A outer s H vs Q E hr h => ?_)
  · obtain ⟨a, ns, rfl, _⟩ := h
    rfl
  · obtain ⟨a, ns0, rfl, hS, hn, k⟩ := h
    have hr5 : Room 5 _ := hr.mono (by decide)
    refine ⟨_, (pss_cons 
  (ps_set (i := 1) sc_law.nd rfl (Or.inl rfl) (pcal GH hr pass0 (pa_cons (pv 0) pa_nil))) (pss_cons 
  (ps_set (i := 2) sc_law.nd rfl (Or.inl rfl) (pcal GP hr pass0 (pa_cons (pv 1) (pa_cons (pe_lst (pa_cons pe_int (pa_cons pe_int (pa_cons pe_int (pa_cons pe_int (pa_cons pe_int pa_nil)))))) pa_nil)))) (pss_cons 
  (ps_set (i := 3) sc_law.nd rfl (Or.inl rfl) (pcal GK hr pass0 (pa_cons (pv 1) (pa_cons (pv 2) pa_nil)))) (pss_cons 
  (ps_set (i := 4) sc_law.nd rfl (Or.inl rfl) (pe_make MI FI hr5 rfl mT bI .nil passL (pa_cons (pv 3) pa_nil))) (pss_cons 
  (ps_set (i := 5) sc_law.nd rfl (Or.inl rfl) (pe_lst pa_nil)) (pss_cons 
  (ps_for PassesOwn.never rfl (pi_range1 (by rfl) nr (pa_cons (pv 2) pa_nil)) (pg_name (i := 6) sc_law.nd rfl (Or.inr rfl)) (pss_one 
    (ps_for PassesOwn.never rfl (pi_range1 (by rfl) nr (pa_cons (pv 2) pa_nil)) (pg_name (i := 7) sc_law.nd rfl (Or.inr rfl)) (pss_one 
      (ps_set (i := 5) sc_law.nd rfl (Or.inl rfl) (pe_op op_cat (pv 5) (pe_lc (own := [("_law_r", 14)]) (g := gName 14) (by rfl) sc_law.nd (pi_range1 (by rfl) nr (pa_cons (pv 2) pa_nil)) (blkOk_by (own := [("_law_r", 14)]) (N := ["_law_script", "_law_hand_here", "_law_many", "_law_backs_here", "_law_ties", "_law_threes", "_law_p", "_law_q", "_law_classes", "_law_three", "_law_due", "_law_handed", "_law_other", "_law_k", "_law_r"]) (sc := defScope s_law) (by decide +kernel)) (fun _ _ _ _ _ => pg_name (i := 14) sc_law.nd rfl (Or.inl rfl)) (fun _ _ _ _ _ => pts_nil) (fun _ _ _ _ _ => (pe_tup (pa_cons (pv 6) (pa_cons (pv 7) (pa_cons (pv 14) pa_nil)))))))))))) (pss_cons 
  (ps_if (pt_not (pt_val (pcal GN2 hr pass0 (pa_cons (pcal GA hr pass0 (pa_cons (pv 4) pa_nil)) (pa_cons (pe_callTy (T := "tuple") (r := rTup K) call_tuple_of (by rfl) nt (by decide +kernel) (pa_cons (pv 5) pa_nil)) pa_nil))))) (pss_one 
    (ps_ret pe_bl)) pss_nil) (pss_cons 
  (ps_set (i := 8) sc_law.nd rfl (Or.inl rfl) (pe_lst pa_nil)) (pss_cons 
  (ps_for PassesOwn.never rfl (pi_list (pv 5)) (pg_name (i := 9) sc_law.nd rfl (Or.inl rfl)) (pss_cons 
    (ps_set (i := 10) sc_law.nd rfl (Or.inl rfl) (pcal GS hr pass0 (pa_cons (pv 3) (pa_cons (pe_ix ix_tup (pv 9) pe_int (fun _ _ => rfl)) (pa_cons (pe_ix ix_tup (pv 9) pe_int (fun _ _ => rfl)) (pa_cons (pe_ix ix_tup (pv 9) pe_int (fun _ _ => rfl)) pa_nil)))))) (pss_cons 
    (ps_set (i := 11) sc_law.nd rfl (Or.inl rfl) (pcal GB hr pass0 (pa_cons (pv 1) (pa_cons (pv 9) pa_nil)))) (pss_cons 
    (ps_if (PW.pt (pw_or (pt_not (pt_val (pcal GN2 hr pass0 (pa_cons (pcal GR hr passL (pa_cons (pv 4) (pa_cons (pv 11) pa_nil))) (pa_cons (pe_callTy (T := "tuple") (r := rTup K) call_tuple_of (by rfl) nt (by decide +kernel) (pa_cons (pv 10) pa_nil)) pa_nil))))) (pw_or1 (pt_not (pt_val (pcal GN1 hr pass0 (pa_cons (pcal GL hr passL (pa_cons (pv 4) (pa_cons (pv 11) pa_nil))) (pa_cons (pe_ix ix_list (pv 10) pe_int (fun _ _ => rfl)) pa_nil)))))))) (pss_one 
      (ps_ret pe_bl)) pss_nil) (pss_cons 
    (ps_if (PW.pt (pw_or (pt_cmpR (op_neD hr.units) (pe_callTy (T := "list") (r := rLst K) call_list_of (by rfl) nli (by decide +kernel) (pa_cons (pv 11) pa_nil)) (pe_callTy (T := "list") (r := rLst K) call_list_of (by rfl) nli (by decide +kernel) (pa_cons (pv 9) pa_nil)) (nomark _)) (pw_or1 (pt_not (pt_val (pcal GN0 hr pass0 (pa_cons (pcal GI hr pass0 (pa_cons (pv 4) (pa_cons (pv 11) pa_nil))) (pa_cons pe_bl pa_nil)))))))) (pss_one 
      (ps_ret pe_bl)) pss_nil) (pss_cons 
    (ps_set (i := 12) sc_law.nd rfl (Or.inl rfl) (pe_ix ix_list (pv 10) (pcal GD hr pass0 (pa_cons (pv 1) (pa_cons (pe_callB call_len_seq (by rfl) nl PySem.boot_len (pa_cons (pv 10) pa_nil)) pa_nil))) (fun _ _ => rfl))) (pss_cons 
    (ps_if (pt_not (pt_val (pcal GN2 hr pass0 (pa_cons (pcal GR hr passL (pa_cons (pv 4) (pa_cons (pe_callTy (T := "list") (r := rLst K) call_list_of (by rfl) nli (by decide +kernel) (pa_cons (pv 12) pa_nil)) pa_nil))) (pa_cons (pe_callTy (T := "tuple") (r := rTup K) call_tuple_of (by rfl) nt (by decide +kernel) (pa_cons (pv 10) pa_nil)) pa_nil))))) (pss_one 
      (ps_ret pe_bl)) pss_nil) (pss_one 
    (ps_if (pt_cmpR (op_notInD (units65 hr)) (pe_ix ix_list (pv 10) pe_int (fun _ _ => rfl)) (pv 8) (by rfl)) (pss_one 
      (ps_expr (pe_bm PySem.F.plainAttrs_list PySem.F.slot_list_append PySem.F.type_list_append mt_append (pv 8) (pa_cons (pe_ix ix_list (pv 10) pe_int (fun _ _ => rfl)) pa_nil)))) pss_nil))))))))) (pss_cons 
  (ps_if (pt_not (pt_val (pcal GN2 hr pass0 (pa_cons (pcal GC hr pass0 (pa_cons (pv 4) pa_nil)) (pa_cons (pe_callTy (T := "tuple") (r := rTup K) call_tuple_of (by rfl) nt (by decide +kernel) (pa_cons (pe_callB (cr_sortT (d := 3) (B := 4) (by decide)) (by rfl) nso (by decide +kernel) (pa_cons (pv 8) pa_nil)) pa_nil)) pa_nil))))) (pss_one 
    (ps_ret pe_bl)) pss_nil) (pss_cons 
  (ps_for PassesOwn.never rfl (pi_range1 (by rfl) nr (pa_cons pe_int pa_nil)) (pg_name (i := 13) sc_law.nd rfl (Or.inl rfl)) (pss_one 
    (ps_if (pt_not (pt_val (pcal GF hr pass0 (pa_cons (pv 4) (pa_cons (pcal GE hr pass0 (pa_cons (pv 1) (pa_cons (pv 2) pa_nil))) pa_nil))))) (pss_one 
      (ps_ret pe_bl)) pss_nil))) (pss_one 
  (ps_ret (pcal GN2 hr pass0 (pa_cons (pcal GC hr pass0 (pa_cons (pe_make MI FI hr5 rfl mT bI .nil passL (pa_cons (pe_callTy (T := "list") (r := rLst K) call_list_of (by rfl) nli (by decide +kernel) (pa_cons (pv 3) pa_nil)) pa_nil)) pa_nil)) (pa_cons (pe_callTy (T := "tuple") (r := rTup K) call_tuple_of (by rfl) nt (by decide +kernel) (pa_cons (pe_callB (cr_sortT (d := 3) (B := 4) (by decide)) (by rfl) nso (by decide +kernel) (pa_cons (pv 8) pa_nil)) pa_nil)) pa_nil)))))))))))))))), ?_⟩
    refine ⟨_, rfl, a, ns0, rfl, hS, hn, fun Ha h q S0 hh0 hq0 hh => ?_⟩
    refine ⟨_, rfl, (by show 5 ≤ sizeLine; decide), fun l0 hl0 => ?_⟩
    obtain ⟨nl0, _⟩ := hh.same_h' hl0
    refine ⟨h, q, l0, _, rfl, hh.new hl0, nl0, upd_same, (by show 0 < 5; decide), (by show 5 ≤ 1000; decide), fun H1 y my b1 h1 => ?_⟩
    obtain ⟨m, rfl, m2, m4⟩ : ∃ m : Nat, y = .int (m : Nat) ∧ 2 ≤ m ∧ m ≤ 4 := by
      simp only [List.mem_cons, List.not_mem_nil, or_false] at my
      rcases my with rfl | rfl | rfl | rfl | rfl
      · exact ⟨2, rfl, by decide, by decide⟩
      · exact ⟨3, rfl, by decide, by decide⟩
      · exact ⟨3, rfl, by decide, by decide⟩
      · exact ⟨2, rfl, by decide, by decide⟩
      · exact ⟨4, rfl, by decide, by decide⟩
    clear b1 my
    -- backs, ties
    refine ⟨_, rfl, _, rfl, h, q, (m : Nat), rfl, by omega, by omega, h1, fun ns b H2 ln gb b2 nb eb h2 => ?_⟩
    obtain ⟨nbh, _⟩ := h1.same_h' nb
    obtain rfl : m = ns.length := by omega
    refine ⟨_, rfl, mk_ties (s := .lst (ns.map V.int)) ⟨b, rfl, eb⟩ gb rfl rfl fun H3 x S3 nx TT => ⟨rfl, ?_⟩⟩
    have h3 := h2.keep S3
    have eb3 := S3 _ _ eb
    -- threes
    refine ⟨Nat.zero_le _, fun th0 hth0 => ?_⟩
    refine ⟨_, rfl, (ns.length : Nat), rfl, by omega, by omega, for_range (lo := 0) (n := ns.length) (fun i σ H' => ∃ (v6 v7 : Option V) (th : Addr), σ = [some (.ref a), some (.ref h), some (.int (ns.length : Nat)), some (.ref b), some (.ref x), some (.ref th), v6, v7, none, none, none, none, none, none, none] ∧ Same H3 H' ∧ H3 th = none ∧ LstsAt H' th (A3 ns.length i))
      ⟨none, none, th0, rfl, new_same hth0, hth0, [], upd_same, rfl, fun j a ts e => by simp at e⟩ ?_ ?_⟩
    · rintro i σ H4 hi ⟨v6, v7, th, rfl, S4, nth, LT⟩
      refine ⟨_, rfl, (ns.length : Nat), rfl, by omega, by omega, for_range (lo := 0) (n := ns.length) (fun j σ H' => ∃ (v7 : Option V) (th : Addr), σ = [some (.ref a), some (.ref h), some (.int (ns.length : Nat)), some (.ref b), some (.ref x), some (.ref th), some (.int (0 + (i : Nat))), v7, none, none, none, none, none, none, none] ∧ Same H3 H' ∧ H3 th = none ∧ LstsAt H' th (A3 ns.length i ++ A2 ns.length i j))
        ⟨v7, th, rfl, S4, nth, by rw [show A2 ns.length i 0 = [] from rfl, List.append_nil]; exact LT⟩ ?_ ?_⟩
      · rintro j σ H5 hj ⟨v7, th, rfl, S5, nth, LT⟩
        refine ⟨_, rfl, _, rfl, (ns.length : Nat), rfl, by omega, by omega, fun D hD => ?_⟩
        refine lc_range (lo := 0) (n := ns.length) (fun k H6 => Gro H5 H6 D (A1 i j k)) (Gro.nil hD) ?_ ?_
        · rintro k' H6 hk G
          refine ⟨rfl, yesT ?_⟩
          refine ⟨_, rfl, _, rfl, _, rfl, (by show 3 ≤ sizeLine; decide), fun z hz => ?_⟩
          obtain ⟨acc, q1, q2, q3⟩ := G.snoc (ts := [0 + (i : Nat), 0 + (j : Nat), 0 + (k' : Nat)]) hz
          have e : ([0 + (i : Nat), 0 + (j : Nat), 0 + (k' : Nat)] : List Int) = [((i : Nat) : Int), ((j : Nat) : Int), ((k' : Nat) : Int)] := by simp
          refine ⟨acc, q1, small1000 ?_, ?_⟩
          · rw [q2]
            unfold A1
            rw [List.length_map, List.length_range]
            omega
          · show Gro H5 _ D (A1 i j (k' + 1))
            rw [A1_succ, ← e]
            exact q3
        · rintro H6 G
          have LT6 := LT.keep G.S
          have LD := G.lsts
          obtain ⟨ps, p1, p2, _⟩ := id LT6
          obtain ⟨qs, q1, q2, _⟩ := id LD
          have al := A_len2 ns.length gb.hi i hi j hj
          refine ⟨th, D, _, _, rfl, rfl, p1, q1, Nat.le_of_lt (small1000 (by rw [List.length_map, List.length_map]; omega)), fun p hp => ?_⟩
          have S6 := S5.trans G.S
          refine ⟨_, p, rfl, S6.trans (new_same hp), same_free S6 hp, ?_⟩
          rw [A2_succ, ← List.append_assoc]
          exact LT6.app LD p1 q1 (new_same hp) upd_same
      · rintro σ H5 ⟨v7, th, rfl, S5, nth, LT⟩
        exact ⟨_, v7, th, rfl, S5, nth, by rw [A3_succ]; exact LT⟩
    rintro σ H4 ⟨v6, v7, th, rfl, S4, nth, LT⟩
    have T4 := TT.keep S4
    have h4 := h3.keep S4
    obtain ⟨nthh, _⟩ := h3.same_h' nth
    have eb4 := S4 _ _ eb3
    obtain ⟨ps, et4, pl, _⟩ := id LT
    -- all_threes
    refine ⟨_, rfl, x, ns, rfl, T4, gb, fun H5 z S5 nz TA => ⟨_, rfl, th, _, rfl, .inl ⟨SqL.of (S5 _ _ et4), fun w hw => ⟨z, w, _, rfl, TA.keep (new_same hw), (LT.keep S5).tup (S5 _ _ et4) hw, fun H6 S6 => ⟨_, rfl, iteF ?_⟩⟩⟩⟩⟩
    have S46 : Same H4 H6 := (S5.trans (new_same hw)).trans S6
    clear S5 S6 TA
    -- classes
    refine ⟨Nat.zero_le _, fun cl hcl => ?_⟩
    have S6c : Same H6 (upd H6 cl (.lst [])) := new_same hcl
    have S4b := S46.trans S6c
    have ec0 : (upd H6 cl (.lst [])) cl = some (.lst []) := upd_same
    have n_clh : cl ≠ h := (((h4.keep S46).same_h' hcl)).1
    have n_clq : cl ≠ q := (((h4.keep S46).same_h' hcl)).2
    have n_bcl : b ≠ cl := ne_of_none (S46 _ _ eb4) hcl
    have n_thcl : th ≠ cl := ne_of_none (S46 _ _ et4) hcl
    have Tb := T4.keep S4b
    have hb := h4.keep S4b
    have ebb := S4b _ _ eb4
    have LTb := LT.keep S4b
    have etb := S4b _ _ et4
    generalize upd H6 cl (.lst []) = Hb at ec0 Tb hb ebb LTb etb
    clear S4b S6c LT et4 T4 h4 eb4 eb3 h3 TT S46
    obtain ⟨cs0, i0, r0, t0, ehb, _⟩ := id hb
    refine ⟨_, rfl, th, rfl, ⟨_, SqL.of etb⟩, for_list (K := K) (a := th) (xs := ps.map V.ref) (fun i σ H' => ∃ (v9 v10 v11 v12 : Option V) (Cs : List (List Int)), σ = [some (.ref a), some (.ref h), some (.int (ns.length : Nat)), some (.ref b), some (.ref x), some (.ref th), v6, v7, some (.ref cl), v9, v10, v11, v12, none, none] ∧ Fr h cl Hb H' ∧ Hand H' h q ∧ LstsAt H' cl Cs ∧ ClsF ns i Cs)
      ⟨none, none, none, none, [], rfl, fun _ _ _ _ e => e, hb, ⟨[], ec0, rfl, fun j a ts e => by simp at e⟩, ClsF.nil⟩ (fun i σ H' _ ⟨_, _, _, _, _, _, f, _⟩ => SqL.of (f _ _ nthh n_thcl etb)) ?_ ?_⟩
    · rintro i y σ H1 hy ⟨v9, v10, v11, v12, Cs, rfl, f1, h1, LC, CC⟩
      have hi : i < ps.length := by
        have := (List.getElem?_eq_some_iff.mp hy).1
        rwa [List.length_map] at this
      have ep := List.getElem?_eq_getElem hi
      have et := List.getElem?_eq_getElem (l := A3 ns.length ns.length) (i := i) (by omega)
      obtain rfl : V.ref ps[i] = y := by
        rw [List.getElem?_map, ep] at hy
        exact Option.some.inj hy
      obtain ⟨p, q', r, e3, ip, iq, ir⟩ := A3_in (List.mem_of_getElem? et) rfl
      rw [e3] at et
      obtain ⟨ps', w1, w2, w3⟩ := id LTb
      have pse : ps' = ps := by
        rw [etb] at w1
        have w1 := HO.lst.inj (Option.some.inj w1)
        exact (map_ref_inj w1).symm
      subst pse
      have tpb := w3 i _ _ ep et
      generalize ps'[i] = t3 at tpb ep
      clear w1 w2 w3 hy e3
      have n_t3h : t3 ≠ h := ne_of tpb ehb (by intro z; cases z)
      have n_t3c : t3 ≠ cl := ne_of tpb ec0 (by intro z; cases z)
      have tp1 := f1 _ _ n_t3h n_t3c tpb
      have T1 := Tb.fr ehb ec0 f1
      have eb1 := f1 _ _ nbh n_bcl ebb
      obtain ⟨cs1, i1, r1, u1, eh1, _⟩ := id h1
      -- due
      refine ⟨_, rfl, _, rfl, t3, _, _, _, rfl, rfl, SqT.of tp1, at_of (j := 0) (v := .int p) rfl rfl, _, rfl, t3, _, _, _, rfl, rfl, SqT.of tp1, at_of (j := 1) (v := .int q') rfl rfl, _, rfl, t3, _, _, _, rfl, rfl, SqT.of tp1, at_of (j := 2) (v := .int r) rfl rfl, b, ns, p, q', r, rfl, eb1, gb, ip, iq, ir, fun H2 d L S2 nd LD RD => ?_⟩
      have n_dh := (h1.same_h' nd).1
      obtain ⟨t, L', rfl⟩ := rdl_pos RD
      have d6 := rdl_len RD
      -- handed
      refine ⟨_, rfl, _, rfl, h, q, t3, [p, q', r], rfl, h1.keep S2, S2 _ _ tp1, fun H3 z s b3 h3 isz its sq nzh => ?_⟩
      have LD3 := LD.but (S2 _ _ eh1) n_dh b3
      have T3 := (T1.keep S2).but (S2 _ _ eh1) b3
      have tp3 := b3 _ _ n_t3h (S2 _ _ tp1)
      have B13 : But h H1 H3 := (But.same S2).trans b3
      have kz := fun (H : Hp) => known_ints (H := H) its
      have ty := three_yes its sq ip iq ir
      have LDd : ∃ ds : List Addr, H3 d = some (.lst (ds.map V.ref)) ∧ ds.length = (t :: L').length ∧ ∀ (j : Nat) (a : Addr) (ts : List Int), ds[j]? = some a → (t :: L')[j]? = some ts → H3 a = some (.tup (ts.map V.int)) := LD3
      obtain ⟨ds, ed3, dl, edj⟩ := LDd
      obtain ⟨d0, ds', rfl⟩ : ∃ a ds', ds = a :: ds' := match ds, dl with | a :: ds', _ => ⟨a, ds', rfl⟩
      have ed0 := edj 0 d0 t rfl rfl
      -- readings_of, least_reading
      refine ⟨_, rfl, _, rfl, x, ns, .ref z, s, rfl, T3, gb, isz, kz _, (fun e => by rw [ty] at e; cases e), fun p1 p2 p3 e i1 i2 i3 H4 z4 L4 S4 nz4 TA4 RL => ?_⟩
      obtain ⟨rfl, rfl, rfl⟩ := ints3 its e
      obtain rfl := rdl_unique RL RD
      refine ⟨_, rfl, d, _, rfl, .inl ⟨SqL.of (S4 _ _ ed3), fun w5 hw5 => ⟨z4, w5, _, rfl, TA4.keep (new_same hw5), (LD3.keep S4).tup (S4 _ _ ed3) hw5, fun H6 S6 => ⟨_, rfl, if_fa (by simp) ?_⟩⟩⟩⟩
      have S36 : Same H3 H6 := (S4.trans (new_same hw5)).trans S6
      clear S6 TA4 hw5 nz4 RL e i1 i2 i3
      refine ⟨_, rfl, _, rfl, x, ns, .ref z, s, rfl, T3.keep S36, gb, isz.keep S36, kz _, (fun e => by rw [ty] at e; cases e), fun p1' p2' p3' e i1 i2 i3 H7 z7 t7 L7 S7 et7 RL => ?_⟩
      obtain ⟨rfl, rfl, rfl⟩ := ints3 its e
      have q7 := rdl_unique RL RD
      injection q7 with q7 q8
      subst q7 q8
      have S37 := S36.trans S7
      refine ⟨_, rfl, d, _, _, _, rfl, rfl, SqL.of (S37 _ _ ed3), at_of (j := 0) (v := .ref d0) rfl rfl, z7, d0, _, rfl, et7, S37 _ _ ed0, fun H8 S8 => ⟨_, rfl, iteF ?_⟩⟩
      have S38 := S37.trans S8
      clear S36 S37 S7 S8 et7 RL e i1 i2 i3
      -- list(handed) != list(three), is_three
      refine ⟨_, rfl, z, _, rfl, is_seq (isz.keep S38) its sq, fun l9 hl9 => ⟨_, rfl, t3, _, rfl, .inr (SqT.of (new_same hl9 _ _ (S38 _ _ tp3))), fun m9 hm9 => ⟨_, _, .lst (SqL.of (new_same hm9 _ _ upd_same)) (dp_ints _), .lst (SqL.of upd_same) (dp_ints _), shaped_li _, shaped_li _, _, rfl, if_fa (by rw [eqv_li]; simp) ?_⟩⟩⟩
      have S39 : Same H3 _ := (S38.trans (new_same hl9)).trans (new_same (o := .lst (([p1', p2', p3'] : List Int).map V.int)) hm9)
      refine ⟨_, rfl, _, rfl, x, ns, .ref z, s, rfl, T3.keep S39, isz.keep S39, kz _, fun H10 S10 => ?_⟩
      rw [ty]
      refine ⟨.inr ⟨true, rfl⟩, _, rfl, iteF ?_⟩
      have S310 := S39.trans S10
      clear S38 S39 S10
      -- other
      have n_t3d : True := trivial
      refine ⟨_, rfl, _, rfl, _, rfl, d, _, rfl, .inl (SqL.of (S310 _ _ ed3)), h, q, _, rfl, (by rw [List.length_map, dl]; exact Int.natCast_pos.mpr (Nat.succ_pos _)), (by rw [List.length_map, dl]; omega), h3.keep S310, fun v H11 v0 v1 b11 h11 => ?_⟩
      rw [List.length_map] at v1
      have hv : v.toNat < (d0 :: ds').length := by omega
      have eo := List.getElem?_eq_getElem hv
      have eot := List.getElem?_eq_getElem (l := t7 :: L7) (i := v.toNat) (by omega)
      generalize (d0 :: ds')[v.toNat] = o at eo
      obtain ⟨a1, a2, a3, eo3, j1, j2, j3⟩ := six_in gb ip iq ir _ ((RD.2 _).mp (List.mem_of_getElem? eot))
      have om := (RD.2 _).mp (List.mem_of_getElem? eot)
      rw [eo3] at eot om
      have etup := edj _ _ _ eo eot
      obtain ⟨cs3, i3, r3, u3, eh3, _⟩ := id h3
      have n_oh : o ≠ h := ne_of etup eh3 (by intro z; cases z)
      have B3 : But h H3 H11 := (But.same S310).trans b11
      have ed11 := B3 _ _ n_dh ed3
      refine ⟨d, _, v, .ref o, rfl, rfl, SqL.of ed11, at_of (j := v.toNat) (by omega) (by rw [List.getElem?_map, eo]; rfl), ?_⟩
      have T11 := T3.but eh3 B3
      have LD11 := LD3.but eh3 n_dh B3
      have eo11 := B3 _ _ n_oh etup
      -- readings_of(ties, list(other))
      refine ⟨_, rfl, _, rfl, o, _, rfl, .inr (SqT.of eo11), fun l12 hl12 => ?_⟩
      have S12 : Same H11 (upd H11 l12 (.lst (([a1, a2, a3] : List Int).map V.int))) := new_same hl12
      refine ⟨x, ns, .ref l12, .lst (([a1, a2, a3] : List Int).map V.int), rfl, T11.keep S12, gb, ⟨l12, rfl, upd_same⟩, ints_known _, (fun e => by rw [three_yes (p := a1) (q := a2) (r := a3) rfl rfl j1 j2 j3] at e; cases e), fun p1 p2 p3 e i1 i2 i3 H13 z13 L13 S13 nz13 TA13 RL => ?_⟩
      obtain ⟨rfl, rfl, rfl⟩ := ints3 (p := a1) (q := a2) (r := a3) rfl e
      obtain rfl := rdl_unique (rdl_same gb ip iq ir om RL) RD
      have S14 := S12.trans S13
      refine ⟨_, rfl, d, _, rfl, .inl ⟨SqL.of (S14 _ _ ed11), fun w15 hw15 => ⟨z13, w15, _, rfl, TA13.keep (new_same hw15), (LD11.keep S14).tup (S14 _ _ ed11) hw15, fun H16 S16 => ⟨_, rfl, iteF ?_⟩⟩⟩⟩
      have S17 := (S14.trans (new_same (o := .tup ((d0 :: ds').map V.ref)) hw15)).trans S16
      have ed16 := S17 _ _ ed11
      have B116 : But h H1 H16 := (B13.trans B3).trans (But.same S17)
      have h16 := h11.keep S17
      have LC16 := LC.but eh1 n_clh B116
      have ed0_16 : H16 d0 = some (.tup (t7.map V.int)) := S17 _ _ (B3 _ _ (ne_of ed0 eh3 (by intro z; cases z)) ed0)
      obtain ⟨dD, sD⟩ := LC16.data (K := K)
      have st := CC.step gb et ip iq ir RD
      refine ⟨_, rfl, d, _, _, _, rfl, rfl, SqL.of ed16, at_of (j := 0) (v := .ref d0) rfl rfl, _, rfl, .tuple (t7.map PyData.int), _, .tup (SqT.of ed0_16) (dp_ints _), dD, shaped_ti _, sD, _, rfl, ?_⟩
      rw [any_tup]
      by_cases c : t7 ∈ Cs
      · rw [if_pos c] at st
        rw [decide_eq_true c]
        exact iteF ⟨_, _, _, _, _, rfl, f1.but B116, h16, LC16, st⟩
      · rw [if_neg c] at st
        rw [decide_eq_false c]
        obtain ⟨cs, k1, k2, k3⟩ := id LC16
        refine iteT ⟨_, rfl, .inl ⟨rfl, _, SqL.of k1⟩, _, rfl, d, _, _, _, rfl, rfl, SqL.of ed16, at_of (j := 0) (v := .ref d0) rfl rfl, cl, _, _, rfl, rfl, k1, small1000 (by have := CC.len gb; rw [List.length_map]; omega), ?_⟩
        exact ⟨_, _, _, _, _, rfl, fun a' o' n1 n2 e => by rw [upd_ne n2]; exact f1.but B116 a' o' n1 n2 e, h16.put n_clh.symm n_clq.symm, LC16.push k1 ed0_16, st⟩
    · rintro σ H1 ⟨v9, v10, v11, v12, Cs, rfl, f1, h1, LC, CC⟩
      rw [List.length_map, pl] at CC
      have T1 := Tb.fr ehb ec0 f1
      have eb1 := f1 _ _ nbh n_bcl ebb
      obtain ⟨cs1, i1, r1, u1, eh1, _⟩ := id h1
      -- reading_classes
      refine ⟨_, rfl, x, ns, rfl, T1, gb, fun H2 z S2 nz2 TA => ?_⟩
      obtain ⟨xs, ex, lx, hx, kk⟩ := sort_pre (K := K) (LC.keep S2) CC gb
      refine ⟨_, rfl, cl, xs, rfl, SqL.of ex, lx, hx, fun ys z3 pm pw nz3 => ?_⟩
      have LS := kk ys z3 pm pw nz3
      have S3 := new_same (o := .lst ys) nz3
      obtain ⟨ss, es, _, _⟩ := id LS
      refine ⟨z3, _, rfl, .inl ⟨SqL.of es, fun w4 hw4 => ⟨z, w4, _, rfl, (TA.keep S3).keep (new_same hw4), LS.tup es hw4, fun H5 S5 => ⟨_, rfl, iteF ?_⟩⟩⟩⟩
      have S15 : Same H1 H5 := ((S2.trans S3).trans (new_same hw4)).trans S5
      have h5 := h1.keep S15
      have T5 := T1.keep S15
      have eb5 := S15 _ _ eb1
      have LC5 := LC.keep S15
      have eh5 := S15 _ _ eh1
      clear S15 S5 S3 S2 TA LS es
      refine ⟨5, rfl, by decide, by decide, for_range (lo := 0) (n := 5) (fun i σ H' => ∃ v13 : Option V, σ = [some (.ref a), some (.ref h), some (.int (ns.length : Nat)), some (.ref b), some (.ref x), some (.ref th), v6, v7, some (.ref cl), v9, v10, v11, v12, v13, none] ∧ But h H5 H' ∧ Hand H' h q) ⟨none, rfl, But.refl h H5, h5⟩ ?_ ?_⟩
      · rintro i σ H6 hi ⟨v13, rfl, B6, h6⟩
        refine ⟨_, rfl, _, rfl, _, rfl, h, q, ns.length, rfl, h6, by omega, m4, fun H7 v s B7 h7 bt => ?_⟩
        have B57 := B6.trans B7
        refine ⟨x, ns, v, s, rfl, T5.but eh5 B57, gb, bt, fun H8 S8 => ⟨_, rfl, iteF ?_⟩⟩
        exact ⟨_, rfl, B57.trans (But.same S8), h7.keep S8⟩
      · rintro σ H6 ⟨v13, rfl, B6, h6⟩
        have eb6 := B6 _ _ nbh eb5
        have LC6 := LC5.but eh5 n_clh B6
        refine ⟨_, rfl, b, _, rfl, .inl (SqL.of eb6), fun l7 hl7 => mk_ties (s := .lst (ns.map V.int)) ⟨l7, rfl, upd_same⟩ gb rfl rfl fun H8 x8 S8 nx8 T8 => ⟨rfl, x8, ns, rfl, T8, gb, fun H9 z9 S9 nz9 TA => ?_⟩⟩
        have S69 := ((new_same (o := .lst (ns.map V.int)) hl7).trans S8).trans S9
        obtain ⟨xs, ex, lx, hx, kk⟩ := sort_pre (K := K) (LC6.keep S69) CC gb
        refine ⟨_, rfl, cl, xs, rfl, SqL.of ex, lx, hx, fun ys z10 pm pw nz10 => ?_⟩
        have LS := kk ys z10 pm pw nz10
        have S10 := new_same (o := .lst ys) nz10
        obtain ⟨ss, es, _, _⟩ := id LS
        exact ⟨z10, _, rfl, .inl ⟨SqL.of es, fun w4 hw4 => ⟨z9, w4, _, rfl, (TA.keep S10).keep (new_same hw4), LS.tup es hw4, fun H5 S5 => k _⟩⟩⟩

end
end J

set_option Elab.async false
set_option linter.all false
set_option maxRecDepth 100000
set_option maxHeartbeats 8000000
namespace J
open PySem L2
theorem kit_me {K : PySem.W.Frag} {S : Addr} : PySem.W.kitOne K (.ref S) (.ref S) = some true := by
  unfold PySem.W.kitOne
  rw [if_pos (by simp)]
theorem kit_no {K : PySem.W.Frag} {S : Addr} {T : String} (h2 : PySem.W.isClsIn K S = true) (h3 : PySem.W.typeIn K (.ref S) = some (.type "type")) (h4 : PySem.W.subIn K (.type T) (.ref S) = some false) : PySem.W.kitOne K (.type T) (.ref S) = some false := by
  have e2 : ((PySem.W.clsIn K S).isSome && PySem.W.typeIn K (.ref S) == some (.type "type")) = true := by
    have q : (PySem.W.clsIn K S).isSome = true := h2
    rw [q, h3]
    rfl
  unfold PySem.W.kitOne
  rw [if_neg (by simp)]
  show (if ((PySem.W.clsIn K S).isSome && PySem.W.typeIn K (.ref S) == some (.type "type")) = true then PySem.W.subIn K (.type T) (.ref S) else none) = some false
  rw [if_pos e2]
  exact h4
theorem kit_yes {K : PySem.W.Frag} {A S : Addr} (h2 : PySem.W.isClsIn K S = true) (h3 : PySem.W.typeIn K (.ref S) = some (.type "type")) (h4 : PySem.W.subIn K (.ref A) (.ref S) = some true) : PySem.W.kitOne K (.ref A) (.ref S) = some true := by
  have e2 : ((PySem.W.clsIn K S).isSome && PySem.W.typeIn K (.ref S) == some (.type "type")) = true := by
    have q : (PySem.W.clsIn K S).isSome = true := h2
    rw [q, h3]
    rfl
  unfold PySem.W.kitOne
  split
  · rfl
  · show (if ((PySem.W.clsIn K S).isSome && PySem.W.typeIn K (.ref S) == some (.type "type")) = true then PySem.W.subIn K (.ref A) (.ref S) else none) = some true
    rw [if_pos e2]
    exact h4
/-- an error of the class at S is what its own name catches -/
theorem exm_own {K : PySem.W.Frag} {S : Addr} (h1 : PySem.W.subIn K (.ref S) (.type "BaseException") = some true) (h2 : PySem.W.isClsIn K S = true) (h3 : PySem.W.typeIn K (.ref S) = some (.type "type")) (h4 : PySem.W.subIn K (.ref S) (.ref S) = some true) :
    PySem.W.exmOne K (.ref S) (.ref S) = some true := by
  have e1 : (PySem.W.subIn K (.ref S) (.type "BaseException") == some true) = true := by rw [h1]; rfl
  have e2 : ((PySem.W.clsIn K S).isSome && PySem.W.typeIn K (.ref S) == some (.type "type")) = true := by
    have q : (PySem.W.clsIn K S).isSome = true := h2
    rw [q, h3]
    rfl
  unfold PySem.W.exmOne
  rw [if_pos e1]
  show (if ((PySem.W.clsIn K S).isSome && PySem.W.typeIn K (.ref S) == some (.type "type")) = true then PySem.W.subIn K (.ref S) (.ref S) else none) = some true
  rw [if_pos e2]
  exact h4
/-- an error of the class at A, asked whether the name of the class at S catches it -/
theorem exm_of {K : PySem.W.Frag} {A S : Addr} {b : Bool} (h1 : PySem.W.subIn K (.ref S) (.type "BaseException") = some true) (h2 : PySem.W.isClsIn K S = true) (h3 : PySem.W.typeIn K (.ref S) = some (.type "type")) (h4 : PySem.W.subIn K (.ref A) (.ref S) = some b) :
    PySem.W.exmOne K (.ref A) (.ref S) = some b := by
  have e1 : (PySem.W.subIn K (.ref S) (.type "BaseException") == some true) = true := by rw [h1]; rfl
  have e2 : ((PySem.W.clsIn K S).isSome && PySem.W.typeIn K (.ref S) == some (.type "type")) = true := by
    have q : (PySem.W.clsIn K S).isSome = true := h2
    rw [q, h3]
    rfl
  unfold PySem.W.exmOne
  rw [if_pos e1]
  show (if ((PySem.W.clsIn K S).isSome && PySem.W.typeIn K (.ref S) == some (.type "type")) = true then PySem.W.subIn K (.ref A) (.ref S) else none) = some b
  rw [if_pos e2]
  exact h4
theorem all_mk {l : PySem.W.OpenLaw} {w : World} {K : PySem.W.Frag} {h : Heap} {mg : Str → Option Value} {fa : Addr} (X : K.In h) (G : h.Ns mainGlobals mg) (hfa : mg "law" = some (.ref fa))
    {GE CB f_xCB CI f_xCI C3 f_xC3 CT f_W f_Q f_CK f_tI f_tH f_tB f_I3 f_RO f_LR f_AT f_RC f_X f_H f_D f_P f_K f_N f_S f_O f_B f_R f_V : Addr} {oc_xCB kv_xCB dc_xCB pm_xCB cd_xCB ct_xCB oc_xCI kv_xCI dc_xCI pm_xCI cd_xCI ct_xCI oc_xC3 kv_xC3 dc_xC3 pm_xC3 cd_xC3 ct_xC3 oc_W kv_W dc_W pm_W cd_W ct_W oc_Q kv_Q dc_Q pm_Q cd_Q ct_Q oc_CK kv_CK dc_CK pm_CK cd_CK ct_CK oc_tI kv_tI dc_tI pm_tI cd_tI ct_tI oc_tH kv_tH dc_tH pm_tH cd_tH ct_tH oc_tB kv_tB dc_tB pm_tB cd_tB ct_tB oc_I3 kv_I3 dc_I3 pm_I3 cd_I3 ct_I3 oc_RO kv_RO dc_RO pm_RO cd_RO ct_RO oc_LR kv_LR dc_LR pm_LR cd_LR ct_LR oc_AT kv_AT dc_AT pm_AT cd_AT ct_AT oc_RC kv_RC dc_RC pm_RC cd_RC ct_RC oc_X kv_X dc_X pm_X cd_X ct_X oc_H kv_H dc_H pm_H cd_H ct_H oc_D kv_D dc_D pm_D cd_D ct_D oc_P kv_P dc_P pm_P cd_P ct_P oc_K kv_K dc_K pm_K cd_K ct_K oc_N kv_N dc_N pm_N cd_N ct_N oc_S kv_S dc_S pm_S cd_S ct_S oc_O kv_O dc_O pm_O cd_O ct_O oc_B kv_B dc_B pm_B cd_B ct_B oc_R kv_R dc_R pm_R cd_R ct_R oc_V kv_V dc_V pm_V cd_V ct_V : Value} {od_xCB an_xCB od_xCI an_xCI od_xC3 an_xC3 od_W an_W od_Q an_Q od_CK an_CK od_tI an_tI od_tH an_tH od_tB an_tB od_I3 an_I3 od_RO an_RO od_LR an_LR od_AT an_AT od_RC an_RC od_X an_X od_H an_H od_D an_D od_P an_P od_K an_K od_N an_N od_S an_S od_O an_O od_B an_B od_R an_R od_V an_V : Option Addr} {sl_xCB sl_xCI sl_xC3 sl_W sl_Q sl_CK sl_tI sl_tH sl_tB sl_I3 sl_RO sl_LR sl_AT sl_RC sl_X sl_H sl_D sl_P sl_K sl_N sl_S sl_O sl_B sl_R sl_V : Array (Option Value)} {tM : Tok}
    {nmCB qCB : Str} {NCB : Addr} {bsCB : List Value} {snCB : List Str} {subCB : List Value} {abCB : Bool} {colCB : Option Bool} {ddCB : Option Addr} {m0CB m1CB m2CB m3CB m5CB : Option Value}
    {nmCI qCI : Str} {NCI : Addr} {bsCI : List Value} {snCI : List Str} {subCI : List Value} {abCI : Bool} {colCI : Option Bool} {ddCI : Option Addr} {m0CI m1CI m2CI m3CI m5CI : Option Value}
    {nmC3 qC3 : Str} {NC3 : Addr} {bsC3 : List Value} {snC3 : List Str} {subC3 : List Value} {abC3 : Bool} {colC3 : Option Bool} {ddC3 : Option Addr} {m0C3 m1C3 m2C3 m3C3 m5C3 : Option Value}
    (z_len : PySem.W.nsIn K mainGlobals "len" = some none)
    (z_isinstance : PySem.W.nsIn K mainGlobals "isinstance" = some none)
    (z_int : PySem.W.nsIn K mainGlobals "int" = some none)
    (z_bool : PySem.W.nsIn K mainGlobals "bool" = some none)
    (z_list : PySem.W.nsIn K mainGlobals "list" = some none)
    (z_tuple : PySem.W.nsIn K mainGlobals "tuple" = some none)
    (z_range : PySem.W.nsIn K mainGlobals "range" = some none)
    (z_abs : PySem.W.nsIn K mainGlobals "abs" = some none)
    (z_enumerate : PySem.W.nsIn K mainGlobals "enumerate" = some none)
    (z_all : PySem.W.nsIn K mainGlobals "all" = some none)
    (z_zip : PySem.W.nsIn K mainGlobals "zip" = some none)
    (z_str : PySem.W.nsIn K mainGlobals "str" = some none)
    (z_sorted : PySem.W.nsIn K mainGlobals "sorted" = some none)
    (z_set : PySem.W.nsIn K mainGlobals "set" = some none)
    (gM : PySem.W.nsIn K mainGlobals "MOST_TIES" = some (some (.int 4 tM)))
    (aCB : PySem.W.nsIn K mainGlobals "BadTies" = some (some (.ref CB)))
    (axCB : PySem.W.findIn K (.ref CB) "__init__" = some (some (.ref f_xCB)))
    (ixCB : PySem.W.typeIn K (.ref f_xCB) = some (.type "function"))
    (lxCB : K.lookup f_xCB = some ⟨oc_xCB, od_xCB, .func (PySem.W.fnOf "__init__" "BadTies.__init__" (defArgs s_BadTies_init) (defBody s_BadTies_init) (defScope s_BadTies_init) .none kv_xCB dc_xCB pm_xCB an_xCB cd_xCB ct_xCB), sl_xCB⟩)
    (cxCB : PySem.W.codeIn K cd_xCB "BadTies.__init__" = true)
    (kxCB : PySem.W.keepIn K (.ref f_xCB) = true)
    (xCB : K.lookup CB = some (excClassObj nmCB qCB CB NCB bsCB [.ref GE, .type "ValueError", .type "Exception", .type "BaseException", .type "object"] true snCB subCB abCB colCB ddCB m0CB m1CB m2CB m3CB m5CB "ValueError.__new__"))
    (saCB : PySem.W.findIn K (.ref CB) "__setattr__" = some (some (.builtin "object.__setattr__")))
    (gaCB : PySem.W.findIn K (.ref CB) "__getattribute__" = some (some (.builtin "BaseException.__getattribute__")))
    (ggCB : PySem.W.findIn K (.ref CB) "__getattr__" = some none)
    (no0CB : PySem.W.findIn K (.ref CB) "what" = some none)
    (kcCB : PySem.W.keepIn K (.ref CB) = true)
    (exCB : PySem.W.subIn K (.ref CB) (.type "BaseException") = some true)
    (tyCB : PySem.W.typeIn K (.ref CB) = some (.type "type"))
    (hdCB : PySem.W.hasDictIn K CB = true)
    (icCB : PySem.W.isClsIn K CB = true)
    (scCB : PySem.W.subIn K (.ref CB) (.ref CB) = some true)
    (aCI : PySem.W.nsIn K mainGlobals "NoTie" = some (some (.ref CI)))
    (axCI : PySem.W.findIn K (.ref CI) "__init__" = some (some (.ref f_xCI)))
    (ixCI : PySem.W.typeIn K (.ref f_xCI) = some (.type "function"))
    (lxCI : K.lookup f_xCI = some ⟨oc_xCI, od_xCI, .func (PySem.W.fnOf "__init__" "NoTie.__init__" (defArgs s_NoTie_init) (defBody s_NoTie_init) (defScope s_NoTie_init) .none kv_xCI dc_xCI pm_xCI an_xCI cd_xCI ct_xCI), sl_xCI⟩)
    (cxCI : PySem.W.codeIn K cd_xCI "NoTie.__init__" = true)
    (kxCI : PySem.W.keepIn K (.ref f_xCI) = true)
    (xCI : K.lookup CI = some (excClassObj nmCI qCI CI NCI bsCI [.ref GE, .type "ValueError", .type "Exception", .type "BaseException", .type "object"] true snCI subCI abCI colCI ddCI m0CI m1CI m2CI m3CI m5CI "ValueError.__new__"))
    (saCI : PySem.W.findIn K (.ref CI) "__setattr__" = some (some (.builtin "object.__setattr__")))
    (gaCI : PySem.W.findIn K (.ref CI) "__getattribute__" = some (some (.builtin "BaseException.__getattribute__")))
    (ggCI : PySem.W.findIn K (.ref CI) "__getattr__" = some none)
    (no0CI : PySem.W.findIn K (.ref CI) "tie" = some none)
    (kcCI : PySem.W.keepIn K (.ref CI) = true)
    (exCI : PySem.W.subIn K (.ref CI) (.type "BaseException") = some true)
    (tyCI : PySem.W.typeIn K (.ref CI) = some (.type "type"))
    (hdCI : PySem.W.hasDictIn K CI = true)
    (icCI : PySem.W.isClsIn K CI = true)
    (scCI : PySem.W.subIn K (.ref CI) (.ref CI) = some true)
    (aC3 : PySem.W.nsIn K mainGlobals "NoThree" = some (some (.ref C3)))
    (axC3 : PySem.W.findIn K (.ref C3) "__init__" = some (some (.ref f_xC3)))
    (ixC3 : PySem.W.typeIn K (.ref f_xC3) = some (.type "function"))
    (lxC3 : K.lookup f_xC3 = some ⟨oc_xC3, od_xC3, .func (PySem.W.fnOf "__init__" "NoThree.__init__" (defArgs s_NoThree_init) (defBody s_NoThree_init) (defScope s_NoThree_init) .none kv_xC3 dc_xC3 pm_xC3 an_xC3 cd_xC3 ct_xC3), sl_xC3⟩)
    (cxC3 : PySem.W.codeIn K cd_xC3 "NoThree.__init__" = true)
    (kxC3 : PySem.W.keepIn K (.ref f_xC3) = true)
    (xC3 : K.lookup C3 = some (excClassObj nmC3 qC3 C3 NC3 bsC3 [.ref GE, .type "ValueError", .type "Exception", .type "BaseException", .type "object"] true snC3 subC3 abC3 colC3 ddC3 m0C3 m1C3 m2C3 m3C3 m5C3 "ValueError.__new__"))
    (saC3 : PySem.W.findIn K (.ref C3) "__setattr__" = some (some (.builtin "object.__setattr__")))
    (gaC3 : PySem.W.findIn K (.ref C3) "__getattribute__" = some (some (.builtin "BaseException.__getattribute__")))
    (ggC3 : PySem.W.findIn K (.ref C3) "__getattr__" = some none)
    (no0C3 : PySem.W.findIn K (.ref C3) "three" = some none)
    (kcC3 : PySem.W.keepIn K (.ref C3) = true)
    (exC3 : PySem.W.subIn K (.ref C3) (.type "BaseException") = some true)
    (tyC3 : PySem.W.typeIn K (.ref C3) = some (.type "type"))
    (hdC3 : PySem.W.hasDictIn K C3 = true)
    (icC3 : PySem.W.isClsIn K C3 = true)
    (scC3 : PySem.W.subIn K (.ref C3) (.ref C3) = some true)
    (aCT : PySem.W.nsIn K mainGlobals "Ties" = some (some (.ref CT)))
    (pgCT : PySem.W.plainGet K CT Str.empty = true)
    (hdCT : PySem.W.hasDictIn K CT = true)
    (poCT : PySem.W.plainOver K CT = true)
    (saCT : PySem.W.findIn K (.ref CT) "__setattr__" = some (some (.builtin "object.__setattr__")))
    (mkCT : PySem.W.makesIn K CT = true)
    (kcCT : PySem.W.keepIn K (.ref CT) = true)
    (n0CT : PySem.W.findIn K (.ref CT) "backs" = some none)
    (n1CT : PySem.W.findIn K (.ref CT) "many" = some none)
    (aGE : PySem.W.nsIn K mainGlobals "GuestError" = some (some (.ref GE)))
    (icGE : PySem.W.isClsIn K GE = true)
    (tyGE : PySem.W.typeIn K (.ref GE) = some (.type "type"))
    (suGE : PySem.W.subIn K (.ref C3) (.ref GE) = some true)
    (haC3 : PySem.W.findIn K (.ref C3) "__class__" = some (some (.builtin "object.__class__")))
    (hn0 : PySem.W.specialIn K (.builtin "object.__class__") "__get__" = some (some (.builtin "getset_descriptor.__get__")))
    (htk0 : PySem.W.takesIn K (.builtin "object.__class__") = some true)
    (hmC3 : PySem.W.mroIn K C3 (.type "object") = some true)
    (aW : PySem.W.nsIn K mainGlobals "is_whole" = some (some (.ref f_W)))
    (lW : K.lookup f_W = some ⟨oc_W, od_W, .func (PySem.W.fnOf "is_whole" "is_whole" (defArgs s_is_whole) (defBody s_is_whole) (defScope s_is_whole) .none kv_W dc_W pm_W an_W cd_W ct_W), sl_W⟩)
    (cW : PySem.W.codeIn K cd_W "is_whole" = true)
    (kW : PySem.W.keepIn K (.ref f_W) = true)
    (aQ : PySem.W.nsIn K mainGlobals "is_sequence" = some (some (.ref f_Q)))
    (lQ : K.lookup f_Q = some ⟨oc_Q, od_Q, .func (PySem.W.fnOf "is_sequence" "is_sequence" (defArgs s_is_sequence) (defBody s_is_sequence) (defScope s_is_sequence) .none kv_Q dc_Q pm_Q an_Q cd_Q ct_Q), sl_Q⟩)
    (cQ : PySem.W.codeIn K cd_Q "is_sequence" = true)
    (kQ : PySem.W.keepIn K (.ref f_Q) = true)
    (aCK : PySem.W.nsIn K mainGlobals "ties_fault" = some (some (.ref f_CK)))
    (lCK : K.lookup f_CK = some ⟨oc_CK, od_CK, .func (PySem.W.fnOf "ties_fault" "ties_fault" (defArgs s_ties_fault) (defBody s_ties_fault) (defScope s_ties_fault) .none kv_CK dc_CK pm_CK an_CK cd_CK ct_CK), sl_CK⟩)
    (cCK : PySem.W.codeIn K cd_CK "ties_fault" = true)
    (kCK : PySem.W.keepIn K (.ref f_CK) = true)
    (atI : PySem.W.findIn K (.ref CT) "__init__" = some (some (.ref f_tI)))
    (itI : PySem.W.isFn K (.ref f_tI) = true)
    (ltI : K.lookup f_tI = some ⟨oc_tI, od_tI, .func (PySem.W.fnOf "__init__" "Ties.__init__" (defArgs s_Ties_init) (defBody s_Ties_init) (defScope s_Ties_init) .none kv_tI dc_tI pm_tI an_tI cd_tI ct_tI), sl_tI⟩)
    (ctI : PySem.W.codeIn K cd_tI "Ties.__init__" = true)
    (ktI : PySem.W.keepIn K (.ref f_tI) = true)
    (atH : PySem.W.findIn K (.ref CT) "has" = some (some (.ref f_tH)))
    (itH : PySem.W.isFn K (.ref f_tH) = true)
    (ltH : K.lookup f_tH = some ⟨oc_tH, od_tH, .func (PySem.W.fnOf "has" "Ties.has" (defArgs s_Ties_has) (defBody s_Ties_has) (defScope s_Ties_has) .none kv_tH dc_tH pm_tH an_tH cd_tH ct_tH), sl_tH⟩)
    (ctH : PySem.W.codeIn K cd_tH "Ties.has" = true)
    (ktH : PySem.W.keepIn K (.ref f_tH) = true)
    (atB : PySem.W.findIn K (.ref CT) "back" = some (some (.ref f_tB)))
    (itB : PySem.W.isFn K (.ref f_tB) = true)
    (ltB : K.lookup f_tB = some ⟨oc_tB, od_tB, .func (PySem.W.fnOf "back" "Ties.back" (defArgs s_Ties_back) (defBody s_Ties_back) (defScope s_Ties_back) .none kv_tB dc_tB pm_tB an_tB cd_tB ct_tB), sl_tB⟩)
    (ctB : PySem.W.codeIn K cd_tB "Ties.back" = true)
    (ktB : PySem.W.keepIn K (.ref f_tB) = true)
    (aI3 : PySem.W.nsIn K mainGlobals "is_three" = some (some (.ref f_I3)))
    (lI3 : K.lookup f_I3 = some ⟨oc_I3, od_I3, .func (PySem.W.fnOf "is_three" "is_three" (defArgs s_is_three) (defBody s_is_three) (defScope s_is_three) .none kv_I3 dc_I3 pm_I3 an_I3 cd_I3 ct_I3), sl_I3⟩)
    (cI3 : PySem.W.codeIn K cd_I3 "is_three" = true)
    (kI3 : PySem.W.keepIn K (.ref f_I3) = true)
    (aRO : PySem.W.nsIn K mainGlobals "readings_of" = some (some (.ref f_RO)))
    (lRO : K.lookup f_RO = some ⟨oc_RO, od_RO, .func (PySem.W.fnOf "readings_of" "readings_of" (defArgs s_readings_of) (defBody s_readings_of) (defScope s_readings_of) .none kv_RO dc_RO pm_RO an_RO cd_RO ct_RO), sl_RO⟩)
    (cRO : PySem.W.codeIn K cd_RO "readings_of" = true)
    (kRO : PySem.W.keepIn K (.ref f_RO) = true)
    (aLR : PySem.W.nsIn K mainGlobals "least_reading" = some (some (.ref f_LR)))
    (lLR : K.lookup f_LR = some ⟨oc_LR, od_LR, .func (PySem.W.fnOf "least_reading" "least_reading" (defArgs s_least_reading) (defBody s_least_reading) (defScope s_least_reading) .none kv_LR dc_LR pm_LR an_LR cd_LR ct_LR), sl_LR⟩)
    (cLR : PySem.W.codeIn K cd_LR "least_reading" = true)
    (kLR : PySem.W.keepIn K (.ref f_LR) = true)
    (aAT : PySem.W.nsIn K mainGlobals "all_threes" = some (some (.ref f_AT)))
    (lAT : K.lookup f_AT = some ⟨oc_AT, od_AT, .func (PySem.W.fnOf "all_threes" "all_threes" (defArgs s_all_threes) (defBody s_all_threes) (defScope s_all_threes) .none kv_AT dc_AT pm_AT an_AT cd_AT ct_AT), sl_AT⟩)
    (cAT : PySem.W.codeIn K cd_AT "all_threes" = true)
    (kAT : PySem.W.keepIn K (.ref f_AT) = true)
    (aRC : PySem.W.nsIn K mainGlobals "reading_classes" = some (some (.ref f_RC)))
    (lRC : K.lookup f_RC = some ⟨oc_RC, od_RC, .func (PySem.W.fnOf "reading_classes" "reading_classes" (defArgs s_reading_classes) (defBody s_reading_classes) (defScope s_reading_classes) .none kv_RC dc_RC pm_RC an_RC cd_RC ct_RC), sl_RC⟩)
    (cRC : PySem.W.codeIn K cd_RC "reading_classes" = true)
    (kRC : PySem.W.keepIn K (.ref f_RC) = true)
    (aX : PySem.W.nsIn K mainGlobals "_law_mix" = some (some (.ref f_X)))
    (lX : K.lookup f_X = some ⟨oc_X, od_X, .func (PySem.W.fnOf "_law_mix" "_law_mix" (defArgs s_Lmix) (defBody s_Lmix) (defScope s_Lmix) .none kv_X dc_X pm_X an_X cd_X ct_X), sl_X⟩)
    (cX : PySem.W.codeIn K cd_X "_law_mix" = true)
    (kX : PySem.W.keepIn K (.ref f_X) = true)
    (aH : PySem.W.nsIn K mainGlobals "_law_hand" = some (some (.ref f_H)))
    (lH : K.lookup f_H = some ⟨oc_H, od_H, .func (PySem.W.fnOf "_law_hand" "_law_hand" (defArgs s_Lhand) (defBody s_Lhand) (defScope s_Lhand) .none kv_H dc_H pm_H an_H cd_H ct_H), sl_H⟩)
    (cH : PySem.W.codeIn K cd_H "_law_hand" = true)
    (kH : PySem.W.keepIn K (.ref f_H) = true)
    (aD : PySem.W.nsIn K mainGlobals "_law_draw" = some (some (.ref f_D)))
    (lD : K.lookup f_D = some ⟨oc_D, od_D, .func (PySem.W.fnOf "_law_draw" "_law_draw" (defArgs s_Ldraw) (defBody s_Ldraw) (defScope s_Ldraw) .none kv_D dc_D pm_D an_D cd_D ct_D), sl_D⟩)
    (cD : PySem.W.codeIn K cd_D "_law_draw" = true)
    (kD : PySem.W.keepIn K (.ref f_D) = true)
    (aP : PySem.W.nsIn K mainGlobals "_law_pick" = some (some (.ref f_P)))
    (lP : K.lookup f_P = some ⟨oc_P, od_P, .func (PySem.W.fnOf "_law_pick" "_law_pick" (defArgs s_Lpick) (defBody s_Lpick) (defScope s_Lpick) .none kv_P dc_P pm_P an_P cd_P ct_P), sl_P⟩)
    (cP : PySem.W.codeIn K cd_P "_law_pick" = true)
    (kP : PySem.W.keepIn K (.ref f_P) = true)
    (aK : PySem.W.nsIn K mainGlobals "_law_backs" = some (some (.ref f_K)))
    (lK : K.lookup f_K = some ⟨oc_K, od_K, .func (PySem.W.fnOf "_law_backs" "_law_backs" (defArgs s_Lbacks) (defBody s_Lbacks) (defScope s_Lbacks) .none kv_K dc_K pm_K an_K cd_K ct_K), sl_K⟩)
    (cK : PySem.W.codeIn K cd_K "_law_backs" = true)
    (kK : PySem.W.keepIn K (.ref f_K) = true)
    (aN : PySem.W.nsIn K mainGlobals "_law_plain" = some (some (.ref f_N)))
    (lN : K.lookup f_N = some ⟨oc_N, od_N, .func (PySem.W.fnOf "_law_plain" "_law_plain" (defArgs s_Lplain) (defBody s_Lplain) (defScope s_Lplain) .none kv_N dc_N pm_N an_N cd_N ct_N), sl_N⟩)
    (cN : PySem.W.codeIn K cd_N "_law_plain" = true)
    (kN : PySem.W.keepIn K (.ref f_N) = true)
    (aS : PySem.W.nsIn K mainGlobals "_law_shape" = some (some (.ref f_S)))
    (lS : K.lookup f_S = some ⟨oc_S, od_S, .func (PySem.W.fnOf "_law_shape" "_law_shape" (defArgs s_Lshape) (defBody s_Lshape) (defScope s_Lshape) .none kv_S dc_S pm_S an_S cd_S ct_S), sl_S⟩)
    (cS : PySem.W.codeIn K cd_S "_law_shape" = true)
    (kS : PySem.W.keepIn K (.ref f_S) = true)
    (aO : PySem.W.nsIn K mainGlobals "_law_shown" = some (some (.ref f_O)))
    (lO : K.lookup f_O = some ⟨oc_O, od_O, .func (PySem.W.fnOf "_law_shown" "_law_shown" (defArgs s_Lshown) (defBody s_Lshown) (defScope s_Lshown) .none kv_O dc_O pm_O an_O cd_O ct_O), sl_O⟩)
    (cO : PySem.W.codeIn K cd_O "_law_shown" = true)
    (kO : PySem.W.keepIn K (.ref f_O) = true)
    (aB : PySem.W.nsIn K mainGlobals "_law_bad" = some (some (.ref f_B)))
    (lB : K.lookup f_B = some ⟨oc_B, od_B, .func (PySem.W.fnOf "_law_bad" "_law_bad" (defArgs s_Lbad) (defBody s_Lbad) (defScope s_Lbad) .none kv_B dc_B pm_B an_B cd_B ct_B), sl_B⟩)
    (cB : PySem.W.codeIn K cd_B "_law_bad" = true)
    (kB : PySem.W.keepIn K (.ref f_B) = true)
    (aR : PySem.W.nsIn K mainGlobals "_law_refused" = some (some (.ref f_R)))
    (lR : K.lookup f_R = some ⟨oc_R, od_R, .func (PySem.W.fnOf "_law_refused" "_law_refused" (defArgs s_Lrefused) (defBody s_Lrefused) (defScope s_Lrefused) .none kv_R dc_R pm_R an_R cd_R ct_R), sl_R⟩)
    (cR : PySem.W.codeIn K cd_R "_law_refused" = true)
    (kR : PySem.W.keepIn K (.ref f_R) = true)
    (aV : PySem.W.nsIn K mainGlobals "law" = some (some (.ref f_V)))
    (lV : K.lookup f_V = some ⟨oc_V, od_V, .func (PySem.W.fnOf "law" "law" (defArgs s_law) (defBody s_law) (defScope s_law) .none kv_V dc_V pm_V an_V cd_V ct_V), sl_V⟩)
    (cV : PySem.W.codeIn K cd_V "law" = true)
    (kV : PySem.W.keepIn K (.ref f_V) = true)
    : ∃ fd : FuncData, (∀ (s : Shared) (v : Value), BindsTo s fd ⟨[v], []⟩ [("_law_script", v)]) ∧ ∀ base : Heap, K.In base → base.Ns mainGlobals mg → FnOk l.prog w K mg base CX0 7 fa fd ["_law_script"] (spLaw K) := by
  have e := hfa.symm.trans (PySem.W.mg_of X G aV)
  cases e
  have n_len := PySem.W.mg_none_of X G z_len
  have n_isinstance := PySem.W.mg_none_of X G z_isinstance
  have n_int := PySem.W.mg_none_of X G z_int
  have n_bool := PySem.W.mg_none_of X G z_bool
  have n_list := PySem.W.mg_none_of X G z_list
  have n_tuple := PySem.W.mg_none_of X G z_tuple
  have n_range := PySem.W.mg_none_of X G z_range
  have n_abs := PySem.W.mg_none_of X G z_abs
  have n_enumerate := PySem.W.mg_none_of X G z_enumerate
  have n_all := PySem.W.mg_none_of X G z_all
  have n_zip := PySem.W.mg_none_of X G z_zip
  have n_str := PySem.W.mg_none_of X G z_str
  have n_sorted := PySem.W.mg_none_of X G z_sorted
  have n_set := PySem.W.mg_none_of X G z_set
  have mM := PySem.W.mg_of X G gM
  have FxCB := fun_mk (st := s_BadTies_init) lxCB cxCB kxCB
  have bxCB := FxCB.binds (ps := ["self", "what"]) fun _ _ _ _ _ _ us hl => match us, hl with | [_, _], _ => rfl
  have oCB : OexC K CB := ⟨⟨_, _, _, _, _, _, _, _, _, _, _, _, _, _, _, xCB, by first | rfl | decide +kernel⟩, saCB, exCB, tyCB, kcCB⟩
  have xfCB : XfC K CB := ⟨gaCB, ggCB, exCB, hdCB⟩
  have FxCI := fun_mk (st := s_NoTie_init) lxCI cxCI kxCI
  have bxCI := FxCI.binds (ps := ["self", "tie"]) fun _ _ _ _ _ _ us hl => match us, hl with | [_, _], _ => rfl
  have oCI : OexC K CI := ⟨⟨_, _, _, _, _, _, _, _, _, _, _, _, _, _, _, xCI, by first | rfl | decide +kernel⟩, saCI, exCI, tyCI, kcCI⟩
  have xfCI : XfC K CI := ⟨gaCI, ggCI, exCI, hdCI⟩
  have FxC3 := fun_mk (st := s_NoThree_init) lxC3 cxC3 kxC3
  have bxC3 := FxC3.binds (ps := ["self", "three"]) fun _ _ _ _ _ _ us hl => match us, hl with | [_, _], _ => rfl
  have oC3 : OexC K C3 := ⟨⟨_, _, _, _, _, _, _, _, _, _, _, _, _, _, _, xC3, by first | rfl | decide +kernel⟩, saC3, exC3, tyC3, kcC3⟩
  have xfC3 : XfC K C3 := ⟨gaC3, ggC3, exC3, hdC3⟩
  have clCT : Cls K CT := ⟨pgCT, hdCT, poCT, saCT⟩
  have TC : TiC K CT := ⟨clCT, n0CT, n1CT⟩
  have XC3 : ExcC K C3 := ⟨gaC3, ggC3, exC3, hdC3, haC3, hn0, htk0, hmC3⟩
  have kgE : PySem.W.kitOne K (.ref C3) (.ref GE) = some true := kit_yes icGE tyGE suGE
  have FW := fun_mk (st := s_is_whole) lW cW kW
  have bW := FW.binds (ps := ["thing", "low", "high"]) fun _ _ _ _ _ _ us hl => match us, hl with | [_, _, _], _ => rfl
  have FQ := fun_mk (st := s_is_sequence) lQ cQ kQ
  have bQ := FQ.binds (ps := ["thing"]) fun _ _ _ _ _ _ us hl => match us, hl with | [_], _ => rfl
  have FCK := fun_mk (st := s_ties_fault) lCK cCK kCK
  have bCK := FCK.binds (ps := ["backs"]) fun _ _ _ _ _ _ us hl => match us, hl with | [_], _ => rfl
  have FtI := fun_mk (st := s_Ties_init) ltI ctI ktI
  have btI := FtI.binds (ps := ["self", "backs"]) fun _ _ _ _ _ _ us hl => match us, hl with | [_, _], _ => rfl
  have FtH := fun_mk (st := s_Ties_has) ltH ctH ktH
  have btH := FtH.binds (ps := ["self", "thing"]) fun _ _ _ _ _ _ us hl => match us, hl with | [_, _], _ => rfl
  have FtB := fun_mk (st := s_Ties_back) ltB ctB ktB
  have btB := FtB.binds (ps := ["self", "tie"]) fun _ _ _ _ _ _ us hl => match us, hl with | [_, _], _ => rfl
  have FI3 := fun_mk (st := s_is_three) lI3 cI3 kI3
  have bI3 := FI3.binds (ps := ["ties", "thing"]) fun _ _ _ _ _ _ us hl => match us, hl with | [_, _], _ => rfl
  have FRO := fun_mk (st := s_readings_of) lRO cRO kRO
  have bRO := FRO.binds (ps := ["ties", "three"]) fun _ _ _ _ _ _ us hl => match us, hl with | [_, _], _ => rfl
  have FLR := fun_mk (st := s_least_reading) lLR cLR kLR
  have bLR := FLR.binds (ps := ["ties", "three"]) fun _ _ _ _ _ _ us hl => match us, hl with | [_, _], _ => rfl
  have FAT := fun_mk (st := s_all_threes) lAT cAT kAT
  have bAT := FAT.binds (ps := ["ties"]) fun _ _ _ _ _ _ us hl => match us, hl with | [_], _ => rfl
  have FRC := fun_mk (st := s_reading_classes) lRC cRC kRC
  have bRC := FRC.binds (ps := ["ties"]) fun _ _ _ _ _ _ us hl => match us, hl with | [_], _ => rfl
  have FX := fun_mk (st := s_Lmix) lX cX kX
  have bX := FX.binds (ps := ["_law_number", "_law_turn"]) fun _ _ _ _ _ _ us hl => match us, hl with | [_, _], _ => rfl
  have FH := fun_mk (st := s_Lhand) lH cH kH
  have bH := FH.binds (ps := ["_law_script"]) fun _ _ _ _ _ _ us hl => match us, hl with | [_], _ => rfl
  have FD := fun_mk (st := s_Ldraw) lD cD kD
  have bD := FD.binds (ps := ["_law_hand_here", "_law_many"]) fun _ _ _ _ _ _ us hl => match us, hl with | [_, _], _ => rfl
  have FP := fun_mk (st := s_Lpick) lP cP kP
  have bP := FP.binds (ps := ["_law_hand_here", "_law_things"]) fun _ _ _ _ _ _ us hl => match us, hl with | [_, _], _ => rfl
  have FK := fun_mk (st := s_Lbacks) lK cK kK
  have bK := FK.binds (ps := ["_law_hand_here", "_law_many"]) fun _ _ _ _ _ _ us hl => match us, hl with | [_, _], _ => rfl
  have FN := fun_mk (st := s_Lplain) lN cN kN
  have bN := FN.binds (ps := ["_law_answer", "_law_due"]) fun _ _ _ _ _ _ us hl => match us, hl with | [_, _], _ => rfl
  have FS := fun_mk (st := s_Lshape) lS cS kS
  have bS := FS.binds (ps := ["_law_hand_here", "_law_row"]) fun _ _ _ _ _ _ us hl => match us, hl with | [_, _], _ => rfl
  have FO := fun_mk (st := s_Lshown) lO cO kO
  have bO := FO.binds (ps := ["_law_backs_here", "_law_p", "_law_q", "_law_r"]) fun _ _ _ _ _ _ us hl => match us, hl with | [_, _, _, _], _ => rfl
  have FB := fun_mk (st := s_Lbad) lB cB kB
  have bB := FB.binds (ps := ["_law_hand_here", "_law_many"]) fun _ _ _ _ _ _ us hl => match us, hl with | [_, _], _ => rfl
  have FR := fun_mk (st := s_Lrefused) lR cR kR
  have bR := FR.binds (ps := ["_law_ties", "_law_thing"]) fun _ _ _ _ _ _ us hl => match us, hl with | [_, _], _ => rfl
  have FV := fun_mk (st := s_law) lV cV kV
  have bV := FV.binds (ps := ["_law_script"]) fun _ _ _ _ _ _ us hl => match us, hl with | [_], _ => rfl
  refine ⟨PySem.W.fnOf "law" "law" (defArgs s_law) (defBody s_law) (defScope s_law) .none kv_V dc_V pm_V an_V cd_V ct_V, fun s v => .of_eq rfl, fun base KB GB => ?_⟩
  have ECB : Ex l.prog w K mg base "BadTies" "what" CB f_xCB _ ["self", "what"] := ⟨oCB, axCB, ixCB, ok_BadTies_init FxCB oCB no0CB, bxCB, PySem.W.mg_of X G aCB, xfCB, no0CB, exm_own exCB icCB tyCB scCB⟩
  have ECI : Ex l.prog w K mg base "NoTie" "tie" CI f_xCI _ ["self", "tie"] := ⟨oCI, axCI, ixCI, ok_NoTie_init FxCI oCI no0CI, bxCI, PySem.W.mg_of X G aCI, xfCI, no0CI, exm_own exCI icCI tyCI scCI⟩
  have EC3 : Ex l.prog w K mg base "NoThree" "three" C3 f_xC3 _ ["self", "three"] := ⟨oC3, axC3, ixC3, ok_NoThree_init FxC3 oC3 no0C3, bxC3, PySem.W.mg_of X G aC3, xfC3, no0C3, exm_own exC3 icC3 tyC3 scC3⟩
  have GW : Cal l.prog w K mg base CX0 1 "is_whole" f_W _ ["thing", "low", "high"] spWhole := ⟨ok_is_whole FW n_isinstance n_int n_bool, PySem.W.mg_of X G aW, kW, bW⟩
  have GQ : Cal l.prog w K mg base CX0 1 "is_sequence" f_Q _ ["thing"] spSeq := ⟨ok_is_sequence FQ n_isinstance n_list n_tuple, PySem.W.mg_of X G aQ, kQ, bQ⟩
  have GCK : Cal l.prog w K mg base CX0 2 "ties_fault" f_CK _ ["backs"] spFault := ⟨ok_ties_fault FCK n_len n_range n_all ⟨_, mM⟩ GQ GW, PySem.W.mg_of X G aCK, kCK, bCK⟩
  have MIT : Mk K CT f_tI := ⟨mkCT, atI, itI, kcCT⟩
  have FIT := ok_Ties_init (P := l.prog) (w := w) (base := base) FtI TC n_len n_tuple GCK ECB
  have MtH : Mt l.prog w K mg base CX0 2 CT "has" f_tH _ ["self", "thing"] (spHas CT) := ⟨⟨atH, itH, ktH⟩, ok_Ties_has FtH TC GW, btH⟩
  have MtB : Mt l.prog w K mg base (L2.CX l.prog w) 3 CT "back" f_tB _ ["self", "tie"] (spBack CT CI) := ⟨⟨atB, itB, ktB⟩, ok_Ties_back FtB TC MtH ECI, btB⟩
  have GI3 : Cal l.prog w K mg base CX0 3 "is_three" f_I3 _ ["ties", "thing"] (spThree CT) := ⟨ok_is_three FI3 TC n_len n_all GQ MtH, PySem.W.mg_of X G aI3, kI3, bI3⟩
  have GRO : Cal l.prog w K mg base (L2.CX l.prog w) 4 "readings_of" f_RO _ ["ties", "three"] (spReadings CT C3) := ⟨ok_readings_of FRO TC n_tuple n_sorted n_set GI3 MtB EC3, PySem.W.mg_of X G aRO, kRO, bRO⟩
  have GLR : Cal l.prog w K mg base (L2.CX l.prog w) 5 "least_reading" f_LR _ ["ties", "three"] (spLeast CT C3) := ⟨ok_least_reading FLR GRO, PySem.W.mg_of X G aLR, kLR, bLR⟩
  have GAT : Cal l.prog w K mg base CX0 1 "all_threes" f_AT _ ["ties"] (spAll CT) := ⟨ok_all_threes FAT TC n_tuple n_range, PySem.W.mg_of X G aAT, kAT, bAT⟩
  have GRC : Cal l.prog w K mg base CX0 6 "reading_classes" f_RC _ ["ties"] (spClasses CT) := ⟨ok_reading_classes FRC n_tuple GAT GLR, PySem.W.mg_of X G aRC, kRC, bRC⟩
  have GX : Cal l.prog w K mg base CX0 1 "_law_mix" f_X _ ["_law_number", "_law_turn"] spMix := ⟨ok_Lmix FX n_int, PySem.W.mg_of X G aX, kX, bX⟩
  have GH : Cal l.prog w K mg base CX0 1 "_law_hand" f_H _ ["_law_script"] (spHand K) := ⟨ok_Lhand FH n_int n_abs n_enumerate, PySem.W.mg_of X G aH, kH, bH⟩
  have GD : Cal l.prog w K mg base CX0 2 "_law_draw" f_D _ ["_law_hand_here", "_law_many"] spDraw := ⟨ok_Ldraw FD n_int n_len GX, PySem.W.mg_of X G aD, kD, bD⟩
  have GP : Cal l.prog w K mg base CX0 3 "_law_pick" f_P _ ["_law_hand_here", "_law_things"] spPick := ⟨ok_Lpick FP n_len GD, PySem.W.mg_of X G aP, kP, bP⟩
  have GK : Cal l.prog w K mg base CX0 3 "_law_backs" f_K _ ["_law_hand_here", "_law_many"] spBacks := ⟨ok_Lbacks FK n_list n_len n_range GD, PySem.W.mg_of X G aK, kK, bK⟩
  have GNo : Cal l.prog w K mg base CX0 0 "_law_plain" f_N _ ["_law_answer", "_law_due"] spNo := ⟨fn_no, PySem.W.mg_of X G aN, kN, bN⟩
  have GN0 : Cal l.prog w K mg base CX0 1 "_law_plain" f_N _ ["_law_answer", "_law_due"] spP0 := ⟨ok_Lplain0 FN n_isinstance n_tuple n_len n_zip n_bool n_int n_str GNo, PySem.W.mg_of X G aN, kN, bN⟩
  have GN1 : Cal l.prog w K mg base CX0 2 "_law_plain" f_N _ ["_law_answer", "_law_due"] spP1 := ⟨ok_Lplain1 FN n_isinstance n_tuple n_len n_zip n_bool n_int n_str GN0, PySem.W.mg_of X G aN, kN, bN⟩
  have GN2 : Cal l.prog w K mg base CX0 3 "_law_plain" f_N _ ["_law_answer", "_law_due"] spP2 := ⟨ok_Lplain2 FN n_isinstance n_tuple n_len n_zip n_bool n_int n_str GN1, PySem.W.mg_of X G aN, kN, bN⟩
  have GS : Cal l.prog w K mg base CX0 3 "_law_shape" f_S _ ["_law_hand_here", "_law_row"] spShape := ⟨ok_Lshape FS n_list n_tuple GD, PySem.W.mg_of X G aS, kS, bS⟩
  have GO : Cal l.prog w K mg base CX0 1 "_law_shown" f_O _ ["_law_backs_here", "_law_p", "_law_q", "_law_r"] spShown := ⟨ok_Lshown FO n_sorted, PySem.W.mg_of X G aO, kO, bO⟩
  have GB : Cal l.prog w K mg base CX0 4 "_law_bad" f_B _ ["_law_hand_here", "_law_many"] (spBad K) := ⟨ok_Lbad FB GD GP, PySem.W.mg_of X G aB, kB, bB⟩
  have GR : Cal l.prog w K mg base CX0 6 "_law_refused" f_R _ ["_law_ties", "_law_thing"] (spRef K CT) := ⟨ok_Lrefused FR n_isinstance GRO GLR GI3 GN0 EC3 XC3 (PySem.W.mg_of X G aGE) kgE, PySem.W.mg_of X G aR, kR, bR⟩
  exact ok_law FV n_len n_list n_tuple n_range n_sorted GH GP GK GD (PySem.W.mg_of X G aCT) MIT FIT btI GAT GRO GLR GI3 GRC GO GS GR GB GN0 GN1 GN2
theorem walk {l : PySem.W.OpenLaw} {q : Program} {loose : List Str} {XP : (Str → Option Value) → Heap → Prop} {YP : World → Heap → Prop} {d : DefRec} {K : Params → PySem.W.Frag} (hn : l.most = some 63) (hdf : d.params.defaults = [])
    (hY : ∀ (w : World) (h : Heap), YP w h → (K w.params).In h)
    (F : ∀ (w : World) (mg : Str → Option Value) (fa : Addr) (h : Heap), (K w.params).In h → h.Ns mainGlobals mg → mg d.name = some (.ref fa) →
      ∃ fd : FuncData, (∀ (s : Shared) (u : Value), BindsTo s fd ⟨[u], []⟩ [("_law_script", u)]) ∧ ∀ base : Heap, (K w.params).In base → base.Ns mainGlobals mg → FnOk l.prog w (K w.params) mg base CX0 7 fa fd ["_law_script"] (spLaw (K w.params))) :
    PySem.W.WalkO q loose XP YP l.row.toRowW d [] (fun f vs => PySem.call f vs) :=
  L2.walk_of (n := 63) (k := 7) (x := "_law_script") (CX := fun _ => CX0) (sp := fun w => spLaw (K w.params)) hn (by decide) hdf ⟨rfl, by decide, by decide⟩ hY F (fun _ _ a ns hl _ hS => ⟨a, ns, rfl, hS, hl, fun _ => rfl⟩) fun _ _ _ _ _ z => z
end J

set_option Elab.async false
open PySem PySem.W PyProof.Rows in
set_option maxRecDepth 100000 in
set_option maxHeartbeats 0 in
theorem PySem.Challenge.cw_joinedguests_k09_whole_readings_of_three_holds : PySem.Challenge.rw_joinedguests_k09_whole_readings_of_three.Holds := by
  w_on; o_law; k_head; (case hw => w_witness2)
  k_fill
  refine J.walk (l := PySem.Challenge.rw_joinedguests_k09_whole_readings_of_three) rfl rfl (fun w h Y => PySem.W.kIn_of Y) ?F
  case F =>
    intro w mg fa h KX G hmg
    refine' J.all_mk KX G hmg ?z_len ?z_isinstance ?z_int ?z_bool ?z_list ?z_tuple ?z_range ?z_abs ?z_enumerate ?z_all ?z_zip ?z_str ?z_sorted ?z_set ?gM ?aCB ?axCB ?ixCB ?lxCB ?cxCB ?kxCB ?xCB ?saCB ?gaCB ?ggCB ?no0CB ?kcCB ?exCB ?tyCB ?hdCB ?icCB ?scCB ?aCI ?axCI ?ixCI ?lxCI ?cxCI ?kxCI ?xCI ?saCI ?gaCI ?ggCI ?no0CI ?kcCI ?exCI ?tyCI ?hdCI ?icCI ?scCI ?aC3 ?axC3 ?ixC3 ?lxC3 ?cxC3 ?kxC3 ?xC3 ?saC3 ?gaC3 ?ggC3 ?no0C3 ?kcC3 ?exC3 ?tyC3 ?hdC3 ?icC3 ?scC3 ?aCT ?pgCT ?hdCT ?poCT ?saCT ?mkCT ?kcCT ?n0CT ?n1CT ?aGE ?icGE ?tyGE ?suGE ?haC3 ?hn0 ?htk0 ?hmC3 ?aW ?lW ?cW ?kW ?aQ ?lQ ?cQ ?kQ ?aCK ?lCK ?cCK ?kCK ?atI ?itI ?ltI ?ctI ?ktI ?atH ?itH ?ltH ?ctH ?ktH ?atB ?itB ?ltB ?ctB ?ktB ?aI3 ?lI3 ?cI3 ?kI3 ?aRO ?lRO ?cRO ?kRO ?aLR ?lLR ?cLR ?kLR ?aAT ?lAT ?cAT ?kAT ?aRC ?lRC ?cRC ?kRC ?aX ?lX ?cX ?kX ?aH ?lH ?cH ?kH ?aD ?lD ?cD ?kD ?aP ?lP ?cP ?kP ?aK ?lK ?cK ?kK ?aN ?lN ?cN ?kN ?aS ?lS ?cS ?kS ?aO ?lO ?cO ?kO ?aB ?lB ?cB ?kB ?aR ?lR ?cR ?kR ?aV ?lV ?cV ?kV
    (case z_len => k_is)
    (case z_isinstance => k_is)
    (case z_int => k_is)
    (case z_bool => k_is)
    (case z_list => k_is)
    (case z_tuple => k_is)
    (case z_range => k_is)
    (case z_abs => k_is)
    (case z_enumerate => k_is)
    (case z_all => k_is)
    (case z_zip => k_is)
    (case z_str => k_is)
    (case z_sorted => k_is)
    (case z_set => k_is)
    (case gM => k_is)
    (case aCB => k_is)
    (case axCB => k_is)
    (case ixCB => k_is)
    (case lxCB => k_is)
    (case cxCB => k_is)
    (case kxCB => k_is)
    (case xCB => k_is)
    (case saCB => k_is)
    (case gaCB => k_is)
    (case ggCB => k_is)
    (case no0CB => k_is)
    (case kcCB => k_is)
    (case exCB => k_is)
    (case tyCB => k_is)
    (case hdCB => k_is)
    (case icCB => k_is)
    (case scCB => first | rfl | k_is)
    (case aCI => k_is)
    (case axCI => k_is)
    (case ixCI => k_is)
    (case lxCI => k_is)
    (case cxCI => k_is)
    (case kxCI => k_is)
    (case xCI => k_is)
    (case saCI => k_is)
    (case gaCI => k_is)
    (case ggCI => k_is)
    (case no0CI => k_is)
    (case kcCI => k_is)
    (case exCI => k_is)
    (case tyCI => k_is)
    (case hdCI => k_is)
    (case icCI => k_is)
    (case scCI => first | rfl | k_is)
    (case aC3 => k_is)
    (case axC3 => k_is)
    (case ixC3 => k_is)
    (case lxC3 => k_is)
    (case cxC3 => k_is)
    (case kxC3 => k_is)
    (case xC3 => k_is)
    (case saC3 => k_is)
    (case gaC3 => k_is)
    (case ggC3 => k_is)
    (case no0C3 => k_is)
    (case kcC3 => k_is)
    (case exC3 => k_is)
    (case tyC3 => k_is)
    (case hdC3 => k_is)
    (case icC3 => k_is)
    (case scC3 => first | rfl | k_is)
    (case aCT => k_is)
    (case pgCT => k_is)
    (case hdCT => k_is)
    (case poCT => k_is)
    (case saCT => k_is)
    (case mkCT => k_is)
    (case kcCT => k_is)
    (case n0CT => k_is)
    (case n1CT => k_is)
    (case aGE => k_is)
    (case icGE => k_is)
    (case tyGE => k_is)
    (case suGE => k_is)
    (case haC3 => k_is)
    (case hn0 => k_is)
    (case htk0 => k_is)
    (case hmC3 => k_is)
    (case aW => k_is)
    (case lW => k_is)
    (case cW => k_is)
    (case kW => k_is)
    (case aQ => k_is)
    (case lQ => k_is)
    (case cQ => k_is)
    (case kQ => k_is)
    (case aCK => k_is)
    (case lCK => k_is)
    (case cCK => k_is)
    (case kCK => k_is)
    (case atI => k_is)
    (case itI => k_is)
    (case ltI => k_is)
    (case ctI => k_is)
    (case ktI => k_is)
    (case atH => k_is)
    (case itH => k_is)
    (case ltH => k_is)
    (case ctH => k_is)
    (case ktH => k_is)
    (case atB => k_is)
    (case itB => k_is)
    (case ltB => k_is)
    (case ctB => k_is)
    (case ktB => k_is)
    (case aI3 => k_is)
    (case lI3 => k_is)
    (case cI3 => k_is)
    (case kI3 => k_is)
    (case aRO => k_is)
    (case lRO => k_is)
    (case cRO => k_is)
    (case kRO => k_is)
    (case aLR => k_is)
    (case lLR => k_is)
    (case cLR => k_is)
    (case kLR => k_is)
    (case aAT => k_is)
    (case lAT => k_is)
    (case cAT => k_is)
    (case kAT => k_is)
    (case aRC => k_is)
    (case lRC => k_is)
    (case cRC => k_is)
    (case kRC => k_is)
    (case aX => k_is)
    (case lX => k_is)
    (case cX => k_is)
    (case kX => k_is)
    (case aH => k_is)
    (case lH => k_is)
    (case cH => k_is)
    (case kH => k_is)
    (case aD => k_is)
    (case lD => k_is)
    (case cD => k_is)
    (case kD => k_is)
    (case aP => k_is)
    (case lP => k_is)
    (case cP => k_is)
    (case kP => k_is)
    (case aK => k_is)
    (case lK => k_is)
    (case cK => k_is)
    (case kK => k_is)
    (case aN => k_is)
    (case lN => k_is)
    (case cN => k_is)
    (case kN => k_is)
    (case aS => k_is)
    (case lS => k_is)
    (case cS => k_is)
    (case kS => k_is)
    (case aO => k_is)
    (case lO => k_is)
    (case cO => k_is)
    (case kO => k_is)
    (case aB => k_is)
    (case lB => k_is)
    (case cB => k_is)
    (case kB => k_is)
    (case aR => k_is)
    (case lR => k_is)
    (case cR => k_is)
    (case kR => k_is)
    (case aV => k_is)
    (case lV => k_is)
    (case cV => k_is)
    (case kV => k_is)

