import PyProof.Rows.All
import Wide.All
import OpenK.AllK
import Wide.FinOn
import HandS.ForMost
import HandS.ForExc
import HandS.Wide
import HandS.IsInst
import HandS.ExcInit
import HandS.ExcField
import HandS.Conv
import HandS.TupLe
import HandS.TryOnly
import HandS.ExcIs
import HandS.Codes
import PySem.Challenge.RW_joinedguests_k01_ties_made_and_refused
set_option Elab.async false
set_option linter.all false
set_option maxRecDepth 100000
set_option maxHeartbeats 2000000
namespace J
open PySem PySem.Spec PyProof.Rows L2
def top (i : Nat) : Stmt := PySem.Challenge.pw_joinedguests_k01_ties_made_and_refused.main.body.getD i (.Pass ⟨0, 0, 0, 0⟩)
/-! ### a def that may be called -/
structure Cal (P : Program) (w : World) (K : PySem.W.Frag) (mg : Str → Option Value) (base : Heap) (CX : CXT) (k : Nat) (x : Str) (f : Addr) (fd : FuncData) (ps : List Str) (sp : Sp) : Prop where
  F : FnOk P w K mg base CX k f fd ps sp
  m : mg x = some (.ref f)
  kp : PySem.W.keepIn K (.ref f) = true
  b : Binds K fd ps []
section
variable {X : Cx} {CX : CXT} {k j : Nat} {x : Str} {f : Addr} {fd : FuncData} {ps : List Str} {sp : Sp} {E : XK} {p pos : Pos} {e : Expr} {es : List Expr} {t : TA}
theorem pcal (c : Cal X.prog X.w X.K X.mg X.base CX k x f fd ps sp) (hr : Room j X.A) (hx : Passes CX X E) (ha : PA X (e :: es) t) (hk : k ≤ j := by decide) (hg : Gl X x := by rfl)
    (hdb : (x == ("__debug__" : Str)) = false := by decide) (he : starEach (e :: es) X.env = (false, eval e X.env) :: starEach es X.env := by rfl) (hpl : (backTo pos (starEach es X.env)).any (·.1) = false := by rfl) :
    PE X (.Call (.Name x p) (e :: es) [] pos) (tCall sp [] E t) := pe_call c.F (hr.mono hk) hg c.m c.kp c.b .nil hx ha hdb he hpl
end
/-! ### loops over enumerate -/
theorem for_enum {K : PySem.W.Frag} {a : Addr} {xs : List V} {g : TG} {tb : TS} {D : Ends} {σ : L2.St} {H : Hp} (Pv : Nat → L2.St → Hp → Prop) (h0 : Pv 0 σ H) (hl : ∀ i σ H, i ≤ xs.length → Pv i σ H → SqL K H a xs)
    (hs : ∀ i x σ H T, xs[i]? = some x → Pv i σ H → H T = none → g (.ref T) σ (upd H T (.tup [.int (i : Nat), x])) fun σ2 H2 => tb { D with nx := Pv (i + 1), ct := Pv (i + 1), bk := D.nx } σ2 H2) (hd : ∀ σ H, Pv xs.length σ H → D.nx σ H) :
    ∃ W : Nat → Nat → L2.St → Hp → Prop, (∃ m, W 0 m σ H) ∧ ∀ i m σ H, W i m σ H →
      ((Ite K a).stop i H ∧ D.nx σ H) ∨ ((Ite K a).go i H ∧ ∃ N : L2.St → Hp → Prop, (∀ σ' H', N σ' H' → ∃ m', m' < m ∧ W (i + 1) m' σ' H') ∧ ∀ x H', (Ite K a).yld i H x H' → g x σ H' fun σ2 H2 => tb { D with nx := N, ct := N, bk := D.nx } σ2 H2) := by
  refine ⟨fun i m s h => m + i = xs.length ∧ Pv i s h, ⟨xs.length, rfl, h0⟩, ?_⟩
  rintro i m σ H ⟨em, p⟩
  have hi : i ≤ xs.length := by omega
  have q := hl i σ H hi p
  rcases Nat.lt_or_ge i xs.length with hlt | hge
  · refine .inr ⟨⟨xs, xs[i], q, by simp [hlt]⟩, Pv (i + 1), fun σ' H' p' => ⟨m - 1, by omega, by omega, p'⟩, ?_⟩
    rintro x H' ⟨T, y, rfl, hT, rfl, hy⟩
    exact hs i y σ H T (hy xs q) p hT
  · have e : i = xs.length := by omega
    subst e
    exact .inl ⟨⟨xs, q, Nat.le_refl _⟩, hd σ H p⟩

/-! ### mix -/
abbrev s_Lmix : Stmt := top 14
theorem sc_Lmix : FnScope ["_law_number", "_law_turn", "_law_once", "_law_twice"] ["_law_number", "_law_turn"] (defScope s_Lmix) := ⟨rfl, rfl, rfl, by decide +kernel, rfl, by decide +kernel, by decide +kernel⟩
def spMix : Sp := fun vs H Q _ => ∃ n t : Int, vs = [.int n, .int t] ∧ ∀ r : Int, 0 ≤ r → Q (.int r) H
section
variable {P : Program} {w : World} {K : PySem.W.Frag} {mg : Str → Option Value} {base : Heap}
theorem ok_Lmix {f : Addr} {fd : FuncData} (F : Fun K "_law_mix" "_law_mix" s_Lmix f fd) (ni : mg "int" = none) : FnOk P w K mg base CX0 1 f fd ["_law_number", "_law_turn"] spMix := by
  refine F.ok sc_Lmix (fun vs H Q E h => ?_) (fun cdv A outer s H vs Q E hr h => ?_)
  · obtain ⟨n, t, rfl, _⟩ := h
    rfl
  · obtain ⟨n, t, rfl, k⟩ := h
    refine ⟨_, (pss_cons 
  (ps_set (i := 2) sc_Lmix.nd rfl (Or.inl rfl) (pe_op op_mod (pe_callTy call_int1 (by rfl) ni (by decide +kernel) (pa_cons (pe_op op_add (pe_op op_add (pe_op op_mul (pv 0) pe_int) (pe_op op_mul (pv 1) pe_int)) pe_int) pa_nil)) pe_int)) (pss_cons 
  (ps_set (i := 3) sc_Lmix.nd rfl (Or.inl rfl) (pe_op op_mod (pe_callTy call_int1 (by rfl) ni (by decide +kernel) (pa_cons (pe_op op_add (pe_op op_add (pe_op op_mul (pv 2) (pv 2)) (pe_op op_mul (pe_op op_fdiv (pv 2) pe_int) pe_int)) (pe_op op_mul (pv 1) pe_int)) pa_nil)) pe_int)) (pss_one 
  (ps_ret (pe_op op_fdiv (pe_op op_mod (pe_callTy call_int1 (by rfl) ni (by decide +kernel) (pa_cons (pe_op op_add (pe_op op_fdiv (pe_op op_mul (pv 3) (pv 3)) pe_int) (pv 2)) pa_nil)) pe_int) pe_int))))), ?_⟩
    refine ⟨_, rfl, _, _, rfl, rfl, .inr (by decide), _, rfl, _, _, rfl, rfl, .inr (by decide), _, _, rfl, rfl, _, _, rfl, rfl, .inl ⟨_, rfl, ?_⟩⟩
    refine ⟨_, _, rfl, rfl, (by show (0 : Int) < 2147483647; decide), ?_⟩
    have b1 := Int.emod_nonneg (n * 48271 + t * 16807 + 11) (b := 2147483647) (by decide)
    have b2 := Int.emod_lt_of_pos (n * 48271 + t * 16807 + 11) (b := 2147483647) (by decide)
    generalize (n * 48271 + t * 16807 + 11) % 2147483647 = o at b1 b2 ⊢
    refine ⟨_, rfl, _, rfl, _, _, rfl, rfl, .inl ⟨by omega, by omega⟩, ?_⟩
    refine ⟨_, rfl, _, _, rfl, rfl, ⟨by decide, by decide⟩, _, _, rfl, rfl, .inr (by decide), _, _, rfl, rfl, _, rfl, _, _, rfl, rfl, .inr (by decide), _, _, rfl, rfl, .inl ⟨_, rfl, ?_⟩⟩
    refine ⟨_, _, rfl, rfl, (by show (0 : Int) < 2147483399; decide), ?_⟩
    have b3 := Int.emod_nonneg (o * o + o / 127 * 40692 + t * 69621) (b := 2147483399) (by decide)
    have b4 := Int.emod_lt_of_pos (o * o + o / 127 * 40692 + t * 69621) (b := 2147483399) (by decide)
    generalize (o * o + o / 127 * 40692 + t * 69621) % 2147483399 = u at b3 b4 ⊢
    refine ⟨_, rfl, _, rfl, _, _, rfl, rfl, .inl ⟨by omega, by omega⟩, _, _, rfl, rfl, ⟨by decide, by decide⟩, _, rfl, _, _, rfl, rfl, .inl ⟨_, rfl, ?_⟩⟩
    refine ⟨_, _, rfl, rfl, (by show (0 : Int) < 2147483563; decide), _, _, rfl, rfl, ⟨by decide, by decide⟩, k _ ?_⟩
    have b5 := Int.emod_nonneg (u * u / 1009 + o) (b := 2147483563) (by decide)
    omega
end
end J

set_option Elab.async false
set_option linter.all false
set_option maxRecDepth 100000
set_option maxHeartbeats 2000000
namespace J
open PySem PySem.Spec PyProof.Rows L2
/-! ### the hand that is drawn from -/
/-- at h the hand stands: its cells at q -/
def Hand (H : Hp) (h q : Addr) : Prop := ∃ (cs : List Int) (i r t : Int), H h = some (.lst [.ref q, .int i, .int r, .int t]) ∧ H q = some (.lst (cs.map V.int)) ∧ q ≠ h ∧ 0 ≤ i ∧ 0 ≤ r ∧ 0 ≤ t ∧ t < 2147483629 ∧ (∀ c ∈ cs, 0 ≤ c) ∧ cs.length ≤ 63
/-- all that was tracked stands as it stood, but for what is at h -/
def But (h : Addr) (H H' : Hp) : Prop := ∀ b o, b ≠ h → H b = some o → H' b = some o
theorem But.refl (h : Addr) (H : Hp) : But h H H := fun _ _ _ e => e
theorem But.trans {h : Addr} {H H1 H2 : Hp} (a : But h H H1) (b : But h H1 H2) : But h H H2 := fun c o n e => b c o n (a c o n e)
theorem But.put {h : Addr} {H : Hp} {o : HO} : But h H (upd H h o) := fun c u n e => by rw [upd_ne n]; exact e
theorem But.new {h a : Addr} {H : Hp} {o : HO} (n : H a = none) : But h H (upd H a o) := fun c u _ e => by rw [upd_ne (ne_of_none e n)]; exact e
theorem But.same {h : Addr} {H H1 : Hp} (s : Same H H1) : But h H H1 := fun c o _ e => s c o e
theorem Hand.keep {H H' : Hp} {h q : Addr} (x : Hand H h q) (s : Same H H') : Hand H' h q := by
  obtain ⟨cs, i, r, t, e1, e2, z⟩ := x
  exact ⟨cs, i, r, t, s _ _ e1, s _ _ e2, z⟩
theorem Hand.put {H : Hp} {h q a : Addr} {o : HO} (x : Hand H h q) (n1 : h ≠ a) (n2 : q ≠ a) : Hand (upd H a o) h q := by
  obtain ⟨cs, i, r, t, e1, e2, z⟩ := x
  exact ⟨cs, i, r, t, by rw [upd_ne n1]; exact e1, by rw [upd_ne n2]; exact e2, z⟩
theorem Hand.new {H : Hp} {h q a : Addr} {o : HO} (x : Hand H h q) (n : H a = none) : Hand (upd H a o) h q :=
  x.keep fun c u e => by rw [upd_ne (ne_of_none e n)]; exact e
theorem yesT {A B : Hp → Prop} {σ : L2.St} {H : Hp} (h : A H) : tYes σ H (fun b H3 => if b = true then A H3 else B H3) := by
  show if true = true then A H else B H
  rw [if_pos rfl]
  exact h
abbrev s_Lhand : Stmt := top 15
theorem sc_Lhand : FnScope ["_law_script", "_law_total", "_law_k", "_law_cell"] ["_law_script"] (defScope s_Lhand) := ⟨rfl, rfl, rfl, by decide +kernel, rfl, by decide +kernel, by decide +kernel⟩
def spHand (K : PySem.W.Frag) : Sp := fun vs H Q _ => ∃ (a : Addr) (ns : List Int), vs = [.ref a] ∧ SqL K H a (ns.map V.int) ∧ ns.length ≤ 63 ∧ ∀ (H' : Hp) (h q : Addr), Same H H' → H h = none → H q = none → Hand H' h q → Q (.ref h) H'
section
variable {P : Program} {w : World} {K : PySem.W.Frag} {mg : Str → Option Value} {base : Heap}
theorem ok_Lhand {f : Addr} {fd : FuncData} (F : Fun K "_law_hand" "_law_hand" s_Lhand f fd) (ni : mg "int" = none) (na : mg "abs" = none) (ne : mg "enumerate" = none) : FnOk P w K mg base CX0 1 f fd ["_law_script"] (spHand K) := by
  refine F.ok sc_Lhand (fun vs H Q E h => ?_) (fun cdv A outer s H vs Q E hr h => ?_)
  · obtain ⟨a, ns, rfl, _⟩ := h
    rfl
  · obtain ⟨a, ns, rfl, hS, hn, k⟩ := h
    refine ⟨_, (pss_cons 
  (ps_set (i := 1) sc_Lhand.nd rfl (Or.inl rfl) pe_int) (pss_cons 
  (ps_for PassesOwn.never rfl (pi_enum (by rfl) ne (pa_cons (pv 0) pa_nil)) (pg_tup (by rfl) (pgs_cons (pg_name (i := 2) sc_Lhand.nd rfl (Or.inl rfl)) (pgs_cons (pg_name (i := 3) sc_Lhand.nd rfl (Or.inl rfl)) pgs_nil))) (pss_one 
    (ps_set (i := 1) sc_Lhand.nd rfl (Or.inl rfl) (pe_op op_mod (pe_callTy call_int1 (by rfl) ni (by decide +kernel) (pa_cons (pe_op op_add (pe_op op_mul (pv 1) pe_int) (pe_op op_mul (pe_callTy call_int1 (by rfl) ni (by decide +kernel) (pa_cons (pv 3) pa_nil)) (pe_op op_add (pv 2) pe_int))) pa_nil)) pe_int)))) (pss_one 
  (ps_ret (pe_lst (pa_cons (pe_lc (own := [("_law_cell", 3)]) (g := gName 3) (by rfl) sc_Lhand.nd (pi_list (pv 0)) (blkOk_by (own := [("_law_cell", 3)]) (N := ["_law_script", "_law_total", "_law_k", "_law_cell"]) (sc := defScope s_Lhand) (by decide +kernel)) (fun _ _ _ _ _ => pg_name (i := 3) sc_Lhand.nd rfl (Or.inl rfl)) (fun _ _ _ _ _ => pts_nil) (fun _ _ _ _ _ => (pe_callB call_abs (by rfl) na (by decide +kernel) (pa_cons (pe_callTy call_int1 (by rfl) ni (by decide +kernel) (pa_cons (pv 3) pa_nil)) pa_nil)))) (pa_cons pe_int (pa_cons pe_int (pa_cons (pv 1) pa_nil))))))))), ?_⟩
    refine ⟨_, rfl, a, _, rfl, hS, for_enum (K := K) (a := a) (xs := ns.map V.int) (fun i σ H' => ∃ (t : Int) (v2 v3 : Option V), σ = [some (.ref a), some (.int t), v2, v3] ∧ Same H H' ∧ 0 ≤ t ∧ t < 2147483629)
      ⟨0, none, none, rfl, Same.refl H, by decide, by decide⟩ (fun i σ H' _ ⟨_, _, _, _, S, _⟩ => S.seq hS) ?_ ?_⟩
    · rintro i x σ H' T hx ⟨t, v2, v3, rfl, S, t0, t1⟩ hT
      obtain ⟨c, rfl⟩ : ∃ c, x = V.int c := by
        rw [List.getElem?_map] at hx
        cases e : ns[i]? with
        | none => rw [e] at hx; cases hx
        | some c => rw [e] at hx; exact ⟨c, (Option.some.inj hx).symm⟩
      have hi : i < 63 := by
        have q := (List.getElem?_eq_some_iff.mp hx).1
        rw [List.length_map] at q
        omega
      refine ⟨T, _, rfl, SqT.of upd_same, rfl, _, _, rfl, _, _, rfl, rfl, ?_⟩
      refine ⟨_, rfl, _, _, rfl, rfl, .inr (by decide), _, rfl, .inl ⟨_, rfl, _, rfl, _, _, rfl, rfl, _, _, rfl, rfl, .inr ⟨by omega, by omega⟩, _, _, rfl, rfl, .inl ⟨_, rfl, _, _, rfl, rfl, (by show (0 : Int) < 2147483629; decide), ?_⟩⟩⟩
      refine ⟨_, _, _, rfl, fun b o e => ?_, Int.emod_nonneg _ (by decide), Int.emod_lt_of_pos _ (by decide)⟩
      rw [upd_ne (ne_of_none (S _ _ e) hT)]
      exact S _ _ e
    · rintro σ H' ⟨t, v2, v3, rfl, S, t0, t1⟩
      refine ⟨_, rfl, a, rfl, ⟨_, S.seq hS⟩, fun D hD => ?_⟩
      refine lc_list (K := K) (a := a) (xs := ns.map V.int) (fun i H1 => Same H H1 ∧ H D = none ∧ H1 D = some (.lst ((ns.take i).map fun c => V.int (if c < 0 then -c else c)))) ⟨fun b o e => ?_, S.free hD, upd_same⟩ (fun i H1 _ ⟨S1, _⟩ => S1.seq hS) ?_ ?_
      · rw [upd_ne (ne_of_none (S _ _ e) hD)]
        exact S _ _ e
      · rintro i x H1 hx ⟨S1, D0, e1⟩
        obtain ⟨c, hc, rfl⟩ : ∃ c, ns[i]? = some c ∧ x = V.int c := by
          rw [List.getElem?_map] at hx
          cases e : ns[i]? with
          | none => rw [e] at hx; cases hx
          | some c => rw [e] at hx; exact ⟨c, rfl, (Option.some.inj hx).symm⟩
        refine ⟨rfl, yesT ?_⟩
        refine ⟨_, rfl, .inl ⟨_, rfl, _, rfl, _, e1, ?_, fun b o e => ?_, D0, ?_⟩⟩
        · rw [List.length_map, List.length_take]
          exact small1000 (by omega)
        · rw [upd_ne (ne_of_none e D0)]
          exact S1 _ _ e
        · rw [upd_same, List.take_add_one, hc, List.map_append]
          rfl
      · rintro H1 ⟨S1, D0, e1⟩
        rw [List.length_map, List.take_length] at e1
        refine ⟨_, rfl, (by show 4 ≤ sizeLine; decide), fun p hp => k _ p D (fun b o e => ?_) (S1.free hp) D0 ?_⟩
        · rw [upd_ne (ne_of_none (S1 _ _ e) hp)]
          exact S1 _ _ e
        · refine ⟨ns.map fun c => if c < 0 then -c else c, 0, 0, t, upd_same, ?_, ne_of_none e1 hp, by decide, by decide, t0, t1, ?_, by rw [List.length_map]; exact hn⟩
          · rw [upd_ne (ne_of_none e1 hp), e1, List.map_map]
            rfl
          · intro c hc
            obtain ⟨z, _, rfl⟩ := List.mem_map.mp hc
            split <;> omega
end
end J

set_option Elab.async false
set_option linter.all false
set_option maxRecDepth 100000
set_option maxHeartbeats 2000000
namespace J
open PySem PySem.Spec PyProof.Rows L2
theorem ifD {c A B : Prop} [Decidable c] (h1 : c → A) (h2 : ¬ c → B) : if decide c = true then A else B := by
  by_cases h : c
  · rw [if_pos (decide_eq_true h)]
    exact h1 h
  · rw [if_neg (by simp [h])]
    exact h2 h
theorem v_int {a b : Int} (h : a = b) : V.int a = V.int b := by rw [h]
abbrev s_Ldraw : Stmt := top 16
theorem sc_Ldraw : FnScope ["_law_hand_here", "_law_many", "_law_cell", "_law_rest"] ["_law_hand_here", "_law_many"] (defScope s_Ldraw) := ⟨rfl, rfl, rfl, by decide +kernel, rfl, by decide +kernel, by decide +kernel⟩
def spDraw : Sp := fun vs H Q _ => ∃ (h q : Addr) (m : Int), vs = [.ref h, .int m] ∧ 0 < m ∧ m < 2 ^ 62 ∧ Hand H h q ∧ ∀ (v : Int) (H' : Hp), 0 ≤ v → v < m → But h H H' → Hand H' h q → Q (.int v) H'
theorem hand_put {H : Hp} {h q : Addr} {cs : List Int} {i r t : Int} (e2 : H q = some (.lst (cs.map V.int))) (nq : q ≠ h) (i0 : 0 ≤ i) (r0 : 0 ≤ r) (t0 : 0 ≤ t) (t1 : t < 2147483629) (hc : ∀ c ∈ cs, 0 ≤ c) (hl : cs.length ≤ 63) :
    Hand (upd H h (.lst [.ref q, .int i, .int r, .int t])) h q := ⟨cs, i, r, t, upd_same, by rw [upd_ne nq]; exact e2, nq, i0, r0, t0, t1, hc, hl⟩
theorem fmod_in {a m : Int} (h : 0 < m) : 0 ≤ a.fmod m ∧ a.fmod m < m := by
  rw [Int.fmod_eq_emod_of_nonneg a (by omega)]
  exact ⟨Int.emod_nonneg _ (by omega), Int.emod_lt_of_pos _ h⟩
section
variable {P : Program} {w : World} {K : PySem.W.Frag} {mg : Str → Option Value} {base : Heap}
theorem ok_Ldraw {f fM : Addr} {fd fdM : FuncData} (F : Fun K "_law_draw" "_law_draw" s_Ldraw f fd) (ni : mg "int" = none) (nl : mg "len" = none) (GM : Cal P w K mg base CX0 1 "_law_mix" fM fdM ["_law_number", "_law_turn"] spMix) : FnOk P w K mg base CX0 2 f fd ["_law_hand_here", "_law_many"] spDraw := by
  refine F.ok sc_Ldraw (fun vs H Q E h => ?_) (fun cdv A outer s H vs Q E hr h => ?_)
  · obtain ⟨n, q, t, rfl, _⟩ := h
    rfl
  · obtain ⟨h, q, m, rfl, m0, m1, ⟨cs, i, r, t, e1, e2, nq, i0, r0, t0, t1, hc, hl⟩, k⟩ := h
    refine ⟨_, (C8.pss_cut 
  (ps_if (PW.pt (pw_and (pt_cmpR op_eq (pe_ix ix_list (pv 0) pe_int (fun _ _ => rfl)) pe_int (nomark _)) (pw_and1 (pt_cmpR op_lt (pe_ix ix_list (pv 0) pe_int (fun _ _ => rfl)) (pe_callB call_len_seq (by rfl) nl PySem.boot_len (pa_cons (pe_ix ix_list (pv 0) pe_int (fun _ _ => rfl)) pa_nil)) (nomark _))))) (pss_cons 
    (ps_set (i := 2) sc_Ldraw.nd rfl (Or.inl rfl) (pe_ix ix_list (pe_ix ix_list (pv 0) pe_int (fun _ _ => rfl)) (pe_ix ix_list (pv 0) pe_int (fun _ _ => rfl)) (fun _ _ => rfl))) (pss_cons 
    (ps_asg (pe_op op_add (pe_ix ix_list (pv 0) pe_int (fun _ _ => rfl)) pe_int) (pg_sub (pv 0) pe_int set_list)) (pss_cons 
    (ps_if (pt_cmpR op_lt (pv 2) (pe_op op_pow pe_int pe_int) (nomark _)) (pss_one 
      (ps_ret (pe_op op_modN (pe_callTy call_int1 (by rfl) ni (by decide +kernel) (pa_cons (pcal GM hr pass0 (pa_cons (pe_op op_mod (pe_callTy call_int1 (by rfl) ni (by decide +kernel) (pa_cons (pv 2) pa_nil)) pe_int) (pa_cons (pe_ix ix_list (pv 0) pe_int (fun _ _ => rfl)) pa_nil))) pa_nil)) (pv 1)))) pss_nil) (pss_one 
    (ps_asg (pv 2) (pg_sub (pv 0) pe_int set_list)))))) pss_nil) (pss_cons 
  (ps_if (pt_cmpR op_gt (pe_ix ix_list (pv 0) pe_int (fun _ _ => rfl)) pe_int (nomark _)) (pss_cons 
    (ps_set (i := 3) sc_Ldraw.nd rfl (Or.inl rfl) (pe_ix ix_list (pv 0) pe_int (fun _ _ => rfl))) (pss_cons 
    (ps_asg (pe_op op_fdivW (pv 3) (pv 1)) (pg_sub (pv 0) pe_int set_list)) (pss_one 
    (ps_ret (pe_op op_modN (pe_callTy call_int1 (by rfl) ni (by decide +kernel) (pa_cons (pv 3) pa_nil)) (pv 1)))))) pss_nil) (pss_cons 
  (ps_asg (pe_op op_mod (pe_callTy call_int1 (by rfl) ni (by decide +kernel) (pa_cons (pe_op op_add (pe_ix ix_list (pv 0) pe_int (fun _ _ => rfl)) pe_int) pa_nil)) pe_int) (pg_sub (pv 0) pe_int set_list)) (pss_one 
  (ps_ret (pe_op op_modN (pe_callTy call_int1 (by rfl) ni (by decide +kernel) (pa_cons (pcal GM hr pass0 (pa_cons (pe_ix ix_list (pv 0) pe_int (fun _ _ => rfl)) (pa_cons (pe_ix ix_list (pv 0) pe_int (fun _ _ => rfl)) pa_nil))) pa_nil)) (pv 1))))))), ?_⟩
    refine ⟨fun σ' H' => ∃ (v2 : Option V) (i r t : Int), σ' = [some (.ref h), some (.int m), v2, none] ∧ But h H H' ∧ H' h = some (.lst [.ref q, .int i, .int r, .int t]) ∧ 0 ≤ i ∧ 0 ≤ r ∧ 0 ≤ t ∧ t < 2147483629, ?_, ?_⟩
    · -- hand[2] == 0
      refine ⟨_, rfl, _, _, _, _, rfl, rfl, SqL.of e1, rfl, rfl, _, rfl, ?_⟩
      refine ifD (fun c1 => ?_) (fun c1 => iteF ⟨none, i, r, t, rfl, But.refl h H, e1, i0, r0, t0, t1⟩)
      refine ⟨_, rfl, _, _, _, _, rfl, rfl, SqL.of e1, rfl, _, rfl, _, _, _, _, rfl, rfl, SqL.of e1, rfl, _, _, rfl, .inl (SqL.of e2), _, _, rfl, rfl, _, rfl, ?_⟩
      refine ifD (fun c2 => ?_) (fun c2 => ⟨none, i, r, t, rfl, But.refl h H, e1, i0, r0, t0, t1⟩)
      rw [List.length_map] at c2
      have hi : i.toNat < cs.length := by omega
      have hic : ((i.toNat : Nat) : Int) = i := Int.toNat_of_nonneg i0
      have hat : (cs.map V.int)[i.toNat]? = some (V.int cs[i.toNat]) := by
        rw [List.getElem?_map, List.getElem?_eq_getElem hi]
        rfl
      have cp : 0 ≤ cs[i.toNat] := hc _ (List.getElem_mem hi)
      generalize cs[i.toNat] = c at hat cp
      refine ⟨_, rfl, _, _, _, _, rfl, rfl, SqL.of e1, rfl, _, rfl, _, _, _, _, rfl, rfl, SqL.of e1, rfl, _, _, _, _, rfl, rfl, SqL.of e2, at_of hic.symm hat, ?_⟩
      refine ⟨_, rfl, _, _, _, _, rfl, rfl, SqL.of e1, rfl, _, _, rfl, rfl, _, rfl, _, _, _, _, rfl, rfl, e1, rfl, ?_⟩
      have e3 : (upd H h (.lst [.ref q, .int (i + 1), .int r, .int t])) h = some (.lst [.ref q, .int (i + 1), .int r, .int t]) := upd_same
      refine ⟨_, rfl, _, _, rfl, rfl, ⟨by decide, by decide, by decide⟩, _, _, rfl, rfl, _, rfl, ?_⟩
      refine ifD (fun c3 => ?_) (fun c3 => ?_)
      · refine ⟨_, rfl, .inl ⟨_, rfl, _, _, rfl, rfl, (by show (0 : Int) < 2147483647; decide), _, rfl, _, _, _, _, rfl, rfl, SqL.of e3, rfl, _, _, rfl, fun z z0 => .inl ⟨_, rfl, _, rfl, _, _, rfl, rfl, (by show m ≠ 0; omega), ?_⟩⟩⟩
        exact k _ _ (fmod_in m0).1 (fmod_in m0).2 But.put (hand_put e2 nq (by omega) r0 t0 t1 hc hl)
      · refine ⟨_, rfl, _, rfl, _, _, _, _, rfl, rfl, e3, rfl, ?_⟩
        exact ⟨_, i + 1, c, t, rfl, But.put.trans But.put, upd_same, by omega, cp, t0, t1⟩
    · rintro σ' H' ⟨v2, i, r, t, rfl, B1, e1, i0, r0, t0, t1⟩
      have e2' := B1 _ _ nq e2
      refine ⟨_, rfl, _, _, _, _, rfl, rfl, SqL.of e1, rfl, _, _, rfl, rfl, _, rfl, ?_⟩
      refine ifD (fun c1 => ?_) (fun c1 => ?_)
      · refine ⟨_, rfl, _, _, _, _, rfl, rfl, SqL.of e1, rfl, _, rfl, _, rfl, _, _, rfl, rfl, wide_div (b := 62) m0 (by omega) (by decide) (by decide), _, rfl, _, _, _, _, rfl, rfl, e1, rfl, ?_⟩
        refine ⟨_, rfl, .inl ⟨_, rfl, _, rfl, _, _, rfl, rfl, (by show m ≠ 0; omega), ?_⟩⟩
        exact k _ _ (fmod_in m0).1 (fmod_in m0).2 (B1.trans But.put) (hand_put e2' nq i0 (Int.ediv_nonneg r0 (by omega)) t0 t1 hc hl)
      · refine ⟨_, rfl, _, _, _, _, rfl, rfl, SqL.of e1, rfl, _, _, rfl, rfl, .inl ⟨_, rfl, _, _, rfl, rfl, (by show (0 : Int) < 2147483629; decide), _, rfl, _, _, _, _, rfl, rfl, e1, rfl, ?_⟩⟩
        have e3 : (upd H' h (.lst [.ref q, .int i, .int r, .int ((t + 1) % 2147483629)])) h = some (.lst [.ref q, .int i, .int r, .int ((t + 1) % 2147483629)]) := upd_same
        refine ⟨_, rfl, _, _, _, _, rfl, rfl, SqL.of e3, rfl, _, rfl, _, _, _, _, rfl, rfl, SqL.of e3, rfl, _, _, rfl, fun z z0 => .inl ⟨_, rfl, _, rfl, _, _, rfl, rfl, (by show m ≠ 0; omega), ?_⟩⟩
        exact k _ _ (fmod_in m0).1 (fmod_in m0).2 (B1.trans But.put) (hand_put e2' nq i0 r0 (Int.emod_nonneg _ (by decide)) (Int.emod_lt_of_pos _ (by decide)) hc hl)
end
end J

set_option Elab.async false
set_option linter.all false
set_option maxRecDepth 100000
set_option maxHeartbeats 2000000
namespace J
open PySem PySem.Spec PyProof.Rows L2
/-! ### things of many kinds -/
/-- the shape of a thing -/
inductive Sh where
  | sc (v : V) | dk | lst (xs : List V) | tup (xs : List V)
def isSc : V → Bool
  | .non => true | .bl _ => true | .int _ => true | .str _ => true | _ => false
def Is (H : Hp) (x : V) : Sh → Prop
  | .sc v => x = v ∧ isSc v = true
  | .dk => ∃ a kvs, x = .ref a ∧ H a = some (.dK kvs)
  | .lst xs => ∃ a, x = .ref a ∧ H a = some (.lst xs)
  | .tup xs => ∃ a, x = .ref a ∧ H a = some (.tup xs)
def Sh.int : Sh → Bool
  | .sc (.int _) => true | _ => false
def Sh.bl : Sh → Bool
  | .sc (.bl _) => true | _ => false
def Sh.isL : Sh → Bool
  | .lst _ => true | _ => false
def Sh.isT : Sh → Bool
  | .tup _ => true | _ => false
theorem Is.keep {H H' : Hp} {x : V} {s : Sh} (h : Is H x s) (S : Same H H') : Is H' x s := by
  cases s with
  | sc v => exact h
  | dk => obtain ⟨a, kvs, e, q⟩ := h; exact ⟨a, kvs, e, S _ _ q⟩
  | lst xs => obtain ⟨a, e, q⟩ := h; exact ⟨a, e, S _ _ q⟩
  | tup xs => obtain ⟨a, e, q⟩ := h; exact ⟨a, e, S _ _ q⟩
theorem kt_NoneType_int : kitB "NoneType" "int" = some false := by decide +kernel
theorem kt_NoneType_bool : kitB "NoneType" "bool" = some false := by decide +kernel
theorem kt_NoneType_list : kitB "NoneType" "list" = some false := by decide +kernel
theorem kt_NoneType_tuple : kitB "NoneType" "tuple" = some false := by decide +kernel
theorem kt_bool_int : kitB "bool" "int" = some true := by decide +kernel
theorem kt_bool_bool : kitB "bool" "bool" = some true := by decide +kernel
theorem kt_bool_list : kitB "bool" "list" = some false := by decide +kernel
theorem kt_bool_tuple : kitB "bool" "tuple" = some false := by decide +kernel
theorem kt_int_int : kitB "int" "int" = some true := by decide +kernel
theorem kt_int_bool : kitB "int" "bool" = some false := by decide +kernel
theorem kt_int_list : kitB "int" "list" = some false := by decide +kernel
theorem kt_int_tuple : kitB "int" "tuple" = some false := by decide +kernel
theorem kt_str_int : kitB "str" "int" = some false := by decide +kernel
theorem kt_str_bool : kitB "str" "bool" = some false := by decide +kernel
theorem kt_str_list : kitB "str" "list" = some false := by decide +kernel
theorem kt_str_tuple : kitB "str" "tuple" = some false := by decide +kernel
theorem kt_dict_int : kitB "dict" "int" = some false := by decide +kernel
theorem kt_dict_bool : kitB "dict" "bool" = some false := by decide +kernel
theorem kt_dict_list : kitB "dict" "list" = some false := by decide +kernel
theorem kt_dict_tuple : kitB "dict" "tuple" = some false := by decide +kernel
theorem kt_list_int : kitB "list" "int" = some false := by decide +kernel
theorem kt_list_bool : kitB "list" "bool" = some false := by decide +kernel
theorem kt_list_list : kitB "list" "list" = some true := by decide +kernel
theorem kt_list_tuple : kitB "list" "tuple" = some false := by decide +kernel
theorem kt_tuple_int : kitB "tuple" "int" = some false := by decide +kernel
theorem kt_tuple_bool : kitB "tuple" "bool" = some false := by decide +kernel
theorem kt_tuple_list : kitB "tuple" "list" = some false := by decide +kernel
theorem kt_tuple_tuple : kitB "tuple" "tuple" = some true := by decide +kernel
theorem Is.ty {K : PySem.W.Frag} {H : Hp} {x : V} {s : Sh} (h : Is H x s) : ∃ t : String, TyX K H x (.type t) ∧ kitB t "int" = some (s.int || s.bl) ∧ kitB t "bool" = some s.bl ∧ kitB t "list" = some s.isL ∧ kitB t "tuple" = some s.isT := by
  cases s with
  | sc v =>
    obtain ⟨rfl, e⟩ := h
    cases x with
    | non => exact ⟨_, .base .non, kt_NoneType_int, kt_NoneType_bool, kt_NoneType_list, kt_NoneType_tuple⟩
    | bl b => exact ⟨_, .base (.bl b), kt_bool_int, kt_bool_bool, kt_bool_list, kt_bool_tuple⟩
    | int b => exact ⟨_, .base (.int b), kt_int_int, kt_int_bool, kt_int_list, kt_int_tuple⟩
    | str b => exact ⟨_, .base (.str b), kt_str_int, kt_str_bool, kt_str_list, kt_str_tuple⟩
    | byt b => cases e
    | flt b => cases e
    | ref b => cases e
    | ty b => cases e
  | dk => obtain ⟨a, kvs, rfl, q⟩ := h; exact ⟨_, .base (.dK q), kt_dict_int, kt_dict_bool, kt_dict_list, kt_dict_tuple⟩
  | lst xs => obtain ⟨a, rfl, q⟩ := h; exact ⟨_, .base (.lst q), kt_list_int, kt_list_bool, kt_list_list, kt_list_tuple⟩
  | tup xs => obtain ⟨a, rfl, q⟩ := h; exact ⟨_, .base (.tup q), kt_tuple_int, kt_tuple_bool, kt_tuple_list, kt_tuple_tuple⟩
/-- isinstance(x, (list, tuple)) -/
theorem kit_seq {K : PySem.W.Frag} {t : String} {a b : Bool} (h1 : kitB t "list" = some a) (h2 : kitB t "tuple" = some b) : PySem.W.kitAny K (.type t) [.type "list", .type "tuple"] = some (a || b) :=
  kitAny_cons (kit_ty h1) (fun e => by subst e; exact kitAny_cons (kit_ty h2) (fun e => by subst e; exact kitAny_nil) (fun e => by subst e; rfl)) (fun e => by subst e; rfl)
def wholeB (x : V) (lo hi : Int) : Bool := match x with
  | .int i => decide (lo ≤ i) && decide (i ≤ hi)
  | _ => false

abbrev s_is_whole : Stmt := top 7
theorem sc_is_whole : FnScope ["thing", "low", "high"] ["thing", "low", "high"] (defScope s_is_whole) := ⟨rfl, rfl, rfl, by decide +kernel, rfl, by decide +kernel, by decide +kernel⟩
def spWhole : Sp := fun vs H Q _ => ∃ (x : V) (s : Sh) (lo hi : Int), vs = [x, .int lo, .int hi] ∧ Is H x s ∧ Q (.bl (wholeB x lo hi)) H
theorem if_tr {A B : Prop} {c : Bool} (e : c = true) (h : A) : if c = true then A else B := by rw [if_pos e]; exact h
theorem if_fa {A B : Prop} {c : Bool} (e : c = false) (h : B) : if c = true then A else B := by rw [if_neg (by simp [e])]; exact h
section
variable {P : Program} {w : World} {K : PySem.W.Frag} {mg : Str → Option Value} {base : Heap}
theorem ok_is_whole {f : Addr} {fd : FuncData} (F : Fun K "is_whole" "is_whole" s_is_whole f fd) (ns : mg "isinstance" = none) (ni : mg "int" = none) (nb : mg "bool" = none) : FnOk P w K mg base CX0 1 f fd ["thing", "low", "high"] spWhole := by
  refine F.ok sc_is_whole (fun vs H Q E h => ?_) (fun cdv A outer s H vs Q E hr h => ?_)
  · obtain ⟨x, s, lo, hi, rfl, _⟩ := h
    rfl
  · obtain ⟨x, sh, lo, hi, rfl, hx, k⟩ := h
    refine ⟨_, (pss_one 
  (ps_ret (pe_and (pe_callB call_isi (by rfl) ns (by decide +kernel) (pa_cons (pv 0) (pa_cons (pe_bltn (by rfl) ni (by decide +kernel) (v := .ty "int") rfl) pa_nil))) (pe_and (pe_not (pe_callB call_isi (by rfl) ns (by decide +kernel) (pa_cons (pv 0) (pa_cons (pe_bltn (by rfl) nb (by decide +kernel) (v := .ty "bool") rfl) pa_nil)))) (pe_one (pe_chain op_le op_le (pv 1) (pv 0) (pv 2))))))), ?_⟩
    obtain ⟨t, ht, k1, k2, _⟩ := hx.ty (K := K)
    refine ⟨_, rfl, _, _, _, _, _, rfl, .ty "int", ht, kit_ty k1, _, rfl, ?_⟩
    cases e1 : sh.int with
    | true =>
      obtain ⟨i, rfl⟩ : ∃ i, sh = .sc (.int i) := by
        cases sh with
        | sc v => cases v <;> first | exact ⟨_, rfl⟩ | cases e1
        | _ => cases e1
      obtain ⟨rfl, _⟩ := hx
      refine if_tr rfl ?_
      refine ⟨_, rfl, _, _, _, _, _, rfl, .ty "bool", ht, kit_ty k2, _, rfl, _, rfl, ?_⟩
      refine if_tr rfl ?_
      refine ⟨_, rfl, _, rfl, _, _, rfl, rfl, _, rfl, ?_⟩
      by_cases c : lo ≤ i
      · refine if_tr (decide_eq_true c) ⟨_, rfl, _, _, rfl, rfl, ?_⟩
        have e : wholeB (.int i) lo hi = decide (i ≤ hi) := by
          show (decide (lo ≤ i) && decide (i ≤ hi)) = _
          rw [decide_eq_true c, Bool.true_and]
        rw [e] at k
        exact k
      · refine if_fa (decide_eq_false c) ?_
        have e : wholeB (.int i) lo hi = false := by
          show (decide (lo ≤ i) && decide (i ≤ hi)) = _
          rw [decide_eq_false c, Bool.false_and]
        rw [e] at k
        exact k
    | false =>
      have e : wholeB x lo hi = false := by
        cases sh with
        | sc v =>
          obtain ⟨rfl, _⟩ := hx
          cases x <;> first | rfl | cases e1
        | dk => obtain ⟨a, _, rfl, _⟩ := hx; rfl
        | lst => obtain ⟨a, rfl, _⟩ := hx; rfl
        | tup => obtain ⟨a, rfl, _⟩ := hx; rfl
      rw [e] at k
      cases e2 : sh.bl with
      | true =>
        refine if_tr rfl ?_
        refine ⟨_, rfl, _, _, _, _, _, rfl, .ty "bool", ht, kit_ty (e2 ▸ k2), _, rfl, _, rfl, ?_⟩
        exact if_fa rfl k
      | false => exact if_fa rfl k
abbrev s_is_label : Stmt := top 8
theorem sc_is_label : FnScope ["thing"] ["thing"] (defScope s_is_label) := ⟨rfl, rfl, rfl, by decide +kernel, rfl, by decide +kernel, by decide +kernel⟩
def spLabel : Sp := fun vs H Q _ => ∃ (x : V) (s : Sh), vs = [x] ∧ Is H x s ∧ Q (.bl (wholeB x 0 1000000000)) H
theorem ok_is_label {f fW : Addr} {fd fdW : FuncData} (F : Fun K "is_label" "is_label" s_is_label f fd) (GW : Cal P w K mg base CX0 1 "is_whole" fW fdW ["thing", "low", "high"] spWhole) (mL : ∃ t, mg "MOST_LABEL" = some (.int 1000000000 t)) : FnOk P w K mg base CX0 2 f fd ["thing"] spLabel := by
  obtain ⟨t, mL⟩ := mL
  refine F.ok sc_is_label (fun vs H Q E h => ?_) (fun cdv A outer s H vs Q E hr h => ?_)
  · obtain ⟨x, s, rfl, _⟩ := h
    rfl
  · obtain ⟨x, sh, rfl, hx, k⟩ := h
    refine ⟨_, (pss_one 
  (ps_ret (pcal GW hr pass0 (pa_cons (pv 0) (pa_cons pe_int (pa_cons (pe_glob (v := .int 1000000000) rfl mL ⟨_, rfl⟩) pa_nil)))))), ?_⟩
    exact ⟨_, rfl, x, sh, 0, 1000000000, rfl, hx, k⟩
abbrev s_is_sequence : Stmt := top 9
theorem sc_is_sequence : FnScope ["thing"] ["thing"] (defScope s_is_sequence) := ⟨rfl, rfl, rfl, by decide +kernel, rfl, by decide +kernel, by decide +kernel⟩
def spSeq : Sp := fun vs H Q _ => ∃ (x : V) (s : Sh), vs = [x] ∧ Is H x s ∧ ∀ H', Same H H' → Q (.bl (s.isL || s.isT)) H'
theorem new_same {H : Hp} {p : Addr} {o : HO} (n : H p = none) : Same H (upd H p o) := fun b u e => by
  rw [upd_ne (ne_of_none e n)]
  exact e
/-- the test isinstance(x, (list, tuple)) -/
theorem isi_seq {K : PySem.W.Frag} {H : Hp} {x : V} {s : Sh} {Q : VK} (hx : Is H x s) (k : ∀ H', Same H H' → Q (.bl (s.isL || s.isT)) H') : 2 ≤ sizeLine ∧ ∀ p, H p = none → rIsiT K [x, .ref p] (upd H p (.tup [.ty "list", .ty "tuple"])) Q := by
  refine ⟨by decide, fun p hp => ?_⟩
  have S : Same H (upd H p (.tup [.ty "list", .ty "tuple"])) := new_same hp
  obtain ⟨t, ht, _, _, k1, k2⟩ := (hx.keep S).ty (K := K)
  exact ⟨_, _, _, _, _, _, rfl, upd_same, .cons (.ty "list") (.cons (.ty "tuple") .nil), ht, kit_seq k1 k2, k _ S⟩
theorem ok_is_sequence {f : Addr} {fd : FuncData} (F : Fun K "is_sequence" "is_sequence" s_is_sequence f fd) (ns : mg "isinstance" = none) (nl : mg "list" = none) (nt : mg "tuple" = none) : FnOk P w K mg base CX0 1 f fd ["thing"] spSeq := by
  refine F.ok sc_is_sequence (fun vs H Q E h => ?_) (fun cdv A outer s H vs Q E hr h => ?_)
  · obtain ⟨x, s, rfl, _⟩ := h
    rfl
  · obtain ⟨x, sh, rfl, hx, k⟩ := h
    refine ⟨_, (pss_one 
  (ps_ret (pe_callB call_isiT (by rfl) ns (by decide +kernel) (pa_cons (pv 0) (pa_cons (pe_tup (pa_cons (pe_bltn (by rfl) nl (by decide +kernel) (v := .ty "list") rfl) (pa_cons (pe_bltn (by rfl) nt (by decide +kernel) (v := .ty "tuple") rfl) pa_nil))) pa_nil))))), ?_⟩
    exact ⟨_, rfl, isi_seq hx k⟩
abbrev s_Lsays : Stmt := top 13
theorem sc_Lsays : FnScope ["_law_told", "_law_due_here"] ["_law_told", "_law_due_here"] (defScope s_Lsays) := ⟨rfl, rfl, rfl, by decide +kernel, rfl, by decide +kernel, by decide +kernel⟩
def spSays : Sp := fun vs H Q _ => ∃ (a b : Bool), vs = [.bl a, .bl b] ∧ Q (.bl (decide (a = b))) H
theorem ok_Lsays {f : Addr} {fd : FuncData} (F : Fun K "_law_says" "_law_says" s_Lsays f fd) (ns : mg "isinstance" = none) (nb : mg "bool" = none) : FnOk P w K mg base CX0 1 f fd ["_law_told", "_law_due_here"] spSays := by
  refine F.ok sc_Lsays (fun vs H Q E h => ?_) (fun cdv A outer s H vs Q E hr h => ?_)
  · obtain ⟨a, b, rfl, _⟩ := h
    rfl
  · obtain ⟨a, b, rfl, k⟩ := h
    refine ⟨_, (pss_one 
  (ps_ret (pe_and (pe_callB call_isi (by rfl) ns (by decide +kernel) (pa_cons (pv 0) (pa_cons (pe_bltn (by rfl) nb (by decide +kernel) (v := .ty "bool") rfl) pa_nil))) (pe_one (pe_cmpR op_eq (pv 0) (pv 1) (nomark _)))))), ?_⟩
    refine ⟨_, rfl, _, _, _, _, true, rfl, .ty "bool", .base (.bl a), kit_ty (by decide +kernel), _, rfl, if_tr rfl ⟨_, rfl, _, rfl, rfl, ?_⟩⟩
    have e : decide (V.bl a = V.bl b) = decide (a = b) := by cases a <;> cases b <;> rfl
    rw [e]
    exact k
end
end J

set_option Elab.async false
set_option linter.all false
set_option maxRecDepth 100000
set_option maxHeartbeats 2000000
namespace J
open PySem PySem.Spec PyProof.Rows L2
/-! ### own errors with one field -/
def spXI (C : Addr) (f : Str) : Sp := fun vs H Q _ => ∃ (a : Addr) (v : V), vs = [.ref a, v] ∧ H a = some (exo a C none) ∧ ∀ dx, H dx = none → dx ≠ a → Q .non (upd (upd H dx (exd dx [(f, v)])) a (exo a C (some dx)))
structure Ex (P : Program) (w : World) (K : PySem.W.Frag) (mg : Str → Option Value) (base : Heap) (x fld : Str) (C fI : Addr) (fd : FuncData) (ps : List Str) : Prop where
  o : OexC K C
  i : PySem.W.findIn K (.ref C) "__init__" = some (some (.ref fI))
  t : PySem.W.typeIn K (.ref fI) = some (.type "function")
  F : FnOk P w K mg base CX0 1 fI fd ps (spXI C fld)
  b : Binds K fd ps []
  m : mg x = some (.ref C)
  xf : XfC K C
  no : PySem.W.findIn K (.ref C) fld = some none
  te : PySem.W.exmOne K (.ref C) (.ref C) = some true
/-- how an error is told: new, with its field -/
def Tells (H : Hp) (C : Addr) (f : Str) (v : V) (E : XK) : Prop := ∀ d H', H d = none → Same H H' → H' d = some (.xd [(f, v)]) → E (.ref C) (some d) H'
theorem mkO_of {C : Addr} {f : Str} {v : V} {H : Hp} {Q : XK} (h : Tells H C f v Q) : [v].length ≤ 1000 ∧ ∀ a, H a = none → spXI C f (.ref a :: ([v] ++ [])) (upd H a (exo a C none))
    (fun u H2 => u = .non ∧ ∃ (d : Addr) (fs : List (Str × V)), H2 a = some (exo a C (some d)) ∧ H2 d = some (exd d fs) ∧ H d = none ∧ Q (.ref C) (some d) (upd (del H2 a) d (.xd fs))) (fun _ _ _ => False) := by
  refine ⟨(by show 1 ≤ 1000; decide), fun a ha => ⟨a, v, rfl, upd_same, fun dx hdx ne => ⟨rfl, dx, [(f, v)], upd_same, ?_, ?_, ?_⟩⟩⟩
  · rw [upd_ne ne, upd_same]
  · rw [upd_ne ne] at hdx
    exact hdx
  · rw [upd_ne ne] at hdx
    refine h _ _ hdx (fun b o e => ?_) upd_same
    rw [upd_ne (ne_of_none e hdx), del_ne (ne_of_none e ha), upd_ne (ne_of_none e ha), upd_ne (ne_of_none e hdx), upd_ne (ne_of_none e ha)]
    exact e
abbrev s_BadTies_init : Stmt := inClass (top 2) 0
abbrev s_NoTie_init : Stmt := inClass (top 3) 0
theorem sc_BadTies_init : FnScope ["self", "what"] ["self", "what"] (defScope s_BadTies_init) := ⟨rfl, rfl, rfl, by decide +kernel, rfl, by decide +kernel, by decide +kernel⟩
theorem sc_NoTie_init : FnScope ["self", "tie"] ["self", "tie"] (defScope s_NoTie_init) := ⟨rfl, rfl, rfl, by decide +kernel, rfl, by decide +kernel, by decide +kernel⟩
section
variable {P : Program} {w : World} {K : PySem.W.Frag} {mg : Str → Option Value} {base : Heap}
theorem ok_BadTies_init {f C : Addr} {fd : FuncData} (F : Fun K "__init__" "BadTies.__init__" s_BadTies_init f fd) (o : OexC K C) (no : PySem.W.findIn K (.ref C) "what" = some none) : FnOk P w K mg base CX0 1 f fd ["self", "what"] (spXI C "what") := by
  refine F.ok sc_BadTies_init (fun vs H Q E h => ?_) (fun cdv A outer s H vs Q E hr h => ?_)
  · obtain ⟨x, s, rfl, _⟩ := h
    rfl
  · obtain ⟨a, v, rfl, ha, k⟩ := h
    refine ⟨_, pss_one (ps_ost (pv 0) (pv 1)), ?_⟩
    exact ⟨_, rfl, _, rfl, a, C, rfl, o, no, .inl ⟨ha, k⟩⟩
theorem ok_NoTie_init {f C : Addr} {fd : FuncData} (F : Fun K "__init__" "NoTie.__init__" s_NoTie_init f fd) (o : OexC K C) (no : PySem.W.findIn K (.ref C) "tie" = some none) : FnOk P w K mg base CX0 1 f fd ["self", "tie"] (spXI C "tie") := by
  refine F.ok sc_NoTie_init (fun vs H Q E h => ?_) (fun cdv A outer s H vs Q E hr h => ?_)
  · obtain ⟨x, s, rfl, _⟩ := h
    rfl
  · obtain ⟨a, v, rfl, ha, k⟩ := h
    refine ⟨_, pss_one (ps_ost (pv 0) (pv 1)), ?_⟩
    exact ⟨_, rfl, _, rfl, a, C, rfl, o, no, .inl ⟨ha, k⟩⟩
end
/-! ### Ties -/
theorem bm_ : ¬ (("backs" : Str) = "many") := by decide +kernel
theorem mb_ : ¬ (("many" : Str) = "backs") := by decide +kernel
def tf (t : Addr) (n : Int) : List (Str × V) := putF "many" (.int n) (putF "backs" (.ref t) [])
theorem tf_backs (t : Addr) (n : Int) : (tf t n).lookup ("backs" : Str) = some (.ref t) := by
  unfold tf
  rw [lookup_putF, if_neg bm_, lookup_putF, if_pos rfl]
theorem tf_many (t : Addr) (n : Int) : (tf t n).lookup ("many" : Str) = some (.int n) := by
  unfold tf
  rw [lookup_putF, if_pos rfl]
theorem tf_no (t : Addr) (n : Int) {m : Str} (h1 : ¬ m = "many") (h2 : ¬ m = "backs") : (tf t n).lookup m = none := by
  unfold tf
  rw [lookup_putF, if_neg h1, lookup_putF, if_neg h2]
  all_goals rfl
def TiesAt (C : Addr) (H : Hp) (x : Addr) (ns : List Int) : Prop := ∃ dx t, H x = some (.ins C dx (tf t (ns.length : Nat))) ∧ H t = some (.tup (ns.map V.int))
theorem TiesAt.keep {C : Addr} {H H' : Hp} {x : Addr} {ns : List Int} (h : TiesAt C H x ns) (S : Same H H') : TiesAt C H' x ns := by
  obtain ⟨dx, t, a, b⟩ := h
  exact ⟨dx, t, S _ _ a, S _ _ b⟩
/-- the class Ties in the written part -/
structure TiC (K : PySem.W.Frag) (C : Addr) : Prop where
  cl : Cls K C
  nB : NoAttr K C "backs"
  nM : NoAttr K C "many"
structure Mt (P : Program) (w : World) (K : PySem.W.Frag) (mg : Str → Option Value) (base : Heap) (CX : CXT) (k : Nat) (C : Addr) (m : Str) (f : Addr) (fd : FuncData) (ps : List Str) (sp : Sp) : Prop where
  M : Meth K C m f
  F : FnOk P w K mg base CX k f fd ps sp
  b : Binds K fd ps []
abbrev s_Ties_has : Stmt := inClass (top 10) 2
abbrev s_Ties_back : Stmt := inClass (top 10) 3
abbrev s_Ties_one_way : Stmt := inClass (top 10) 4
theorem sc_Ties_has : FnScope ["self", "thing"] ["self", "thing"] (defScope s_Ties_has) := ⟨rfl, rfl, rfl, by decide +kernel, rfl, by decide +kernel, by decide +kernel⟩
theorem sc_Ties_back : FnScope ["self", "tie"] ["self", "tie"] (defScope s_Ties_back) := ⟨rfl, rfl, rfl, by decide +kernel, rfl, by decide +kernel, by decide +kernel⟩
theorem sc_Ties_one_way : FnScope ["self", "tie"] ["self", "tie"] (defScope s_Ties_one_way) := ⟨rfl, rfl, rfl, by decide +kernel, rfl, by decide +kernel, by decide +kernel⟩
def tieB (ns : List Int) (x : V) : Bool := wholeB x 0 ((ns.length : Nat) - 1)
def spHas (C : Addr) : Sp := fun vs H Q _ => ∃ (x : Addr) (ns : List Int) (v : V) (s : Sh), vs = [.ref x, v] ∧ TiesAt C H x ns ∧ Is H v s ∧ Q (.bl (tieB ns v)) H
def spBack (C CN : Addr) : Sp := fun vs H Q E => ∃ (x : Addr) (ns : List Int) (v : V) (s : Sh), vs = [.ref x, v] ∧ TiesAt C H x ns ∧ Is H v s ∧ (∀ (i : Nat) (b : Int), v = .int (i : Nat) → ns[i]? = some b → Q (.int b) H) ∧ (tieB ns v = false → Tells H CN "tie" v E)
def spOneWay (C CN : Addr) : Sp := fun vs H Q E => ∃ (x : Addr) (ns : List Int) (v : V) (s : Sh), vs = [.ref x, v] ∧ TiesAt C H x ns ∧ Is H v s ∧ (∀ (i : Nat) (b : Int), v = .int (i : Nat) → ns[i]? = some b → Q (.bl (!decide (b = (i : Nat)))) H) ∧ (tieB ns v = false → Tells H CN "tie" v E)
theorem tieB_true {ns : List Int} {v : V} (h : tieB ns v = true) : ∃ (i : Nat) (b : Int), v = .int (i : Nat) ∧ ns[i]? = some b := by
  cases v with
  | int i =>
    have h' : (decide (0 ≤ i) && decide (i ≤ (ns.length : Nat) - 1)) = true := h
    obtain ⟨h1, h2⟩ := Bool.and_eq_true_iff.mp h'
    have h1 := of_decide_eq_true h1
    have h2 := of_decide_eq_true h2
    have hl : i.toNat < ns.length := by omega
    exact ⟨i.toNat, ns[i.toNat], by rw [Int.toNat_of_nonneg h1], List.getElem?_eq_getElem hl⟩
  | _ => cases h
section
variable {P : Program} {w : World} {K : PySem.W.Frag} {mg : Str → Option Value} {base : Heap}
theorem ok_Ties_has {f C fW : Addr} {fd fdW : FuncData} (F : Fun K "has" "Ties.has" s_Ties_has f fd) (T : TiC K C) (GW : Cal P w K mg base CX0 1 "is_whole" fW fdW ["thing", "low", "high"] spWhole) : FnOk P w K mg base CX0 2 f fd ["self", "thing"] (spHas C) := by
  refine F.ok sc_Ties_has (fun vs H Q E h => ?_) (fun cdv A outer s H vs Q E hr h => ?_)
  · obtain ⟨x, ns, v, s, rfl, _⟩ := h
    rfl
  · obtain ⟨x, ns, v, s, rfl, ⟨dx, t, hx, ht⟩, hv, k⟩ := h
    refine ⟨_, (pss_one 
  (ps_ret (pcal GW hr pass0 (pa_cons (pv 1) (pa_cons pe_int (pa_cons (pe_op op_sub (pe_fld (pv 0) rfl) pe_int) pa_nil)))))), ?_⟩
    exact ⟨_, rfl, _, rfl, x, C, dx, _, _, rfl, hx, T.cl, T.nM, tf_many _ _, _, _, rfl, rfl, v, s, _, _, rfl, hv, k⟩
theorem ok_Ties_back {f C CN fH fI : Addr} {fd fdH fdI : FuncData} (F : Fun K "back" "Ties.back" s_Ties_back f fd) (T : TiC K C) (GH : Mt P w K mg base CX0 2 C "has" fH fdH ["self", "thing"] (spHas C)) (GN : Ex P w K mg base "NoTie" "tie" CN fI fdI ["self", "tie"]) :
    FnOk P w K mg base (L2.CX P w) 3 f fd ["self", "tie"] (spBack C CN) := by
  refine F.okX sc_Ties_back (fun vs H Q E h => ?_) (fun cdv A outer s H vs Q E hr h => ?_)
  · obtain ⟨x, ns, v, s, rfl, _⟩ := h
    rfl
  · obtain ⟨x, ns, v, s, rfl, hT, hv, k1, k2⟩ := h
    obtain ⟨dx, t, hx, ht⟩ := id hT
    refine ⟨_, (pss_cons 
  (ps_if (pt_not (pt_val (pe_meth (pv 0) T.cl GH.M GH.F hr GH.b .nil pass0 (pa_cons (pv 1) pa_nil)))) (pss_one 
    (ps_raise rfl (takes_of rfl rfl rfl rfl) (pmk_oex GN.o GN.i GN.t GN.F hr GN.b .nil pass0 rfl GN.m (pa_cons (pv 1) pa_nil)))) pss_nil) (pss_one 
  (ps_ret (pe_ix ix_tup (pe_fld (pv 0) rfl) (pv 1) (fun _ _ => rfl))))), ?_⟩
    refine ⟨_, rfl, x, dx, _, rfl, hx, tf_no _ _ (by decide +kernel) (by decide +kernel), _, rfl, x, ns, v, s, rfl, hT, hv, _, rfl, ?_⟩
    cases e : tieB ns v with
    | true =>
      obtain ⟨i, b, rfl, hb⟩ := tieB_true e
      refine if_fa rfl ⟨_, rfl, x, C, dx, _, _, rfl, hx, T.cl, T.nB, tf_backs _ _, _, rfl, _, _, _, _, rfl, rfl, SqT.of ht, at_of (v := .int b) rfl ?_, k1 i b rfl hb⟩
      rw [List.getElem?_map, hb]
      rfl
    | false => exact if_tr rfl ⟨_, rfl, mkO_of (k2 e)⟩
theorem ok_Ties_one_way {f C CN fB : Addr} {fd fdB : FuncData} (F : Fun K "one_way" "Ties.one_way" s_Ties_one_way f fd) (T : TiC K C) (GB : Mt P w K mg base (L2.CX P w) 3 C "back" fB fdB ["self", "tie"] (spBack C CN)) :
    FnOk P w K mg base (L2.CX P w) 4 f fd ["self", "tie"] (spOneWay C CN) := by
  refine F.okX sc_Ties_one_way (fun vs H Q E h => ?_) (fun cdv A outer s H vs Q E hr h => ?_)
  · obtain ⟨x, ns, v, s, rfl, _⟩ := h
    rfl
  · obtain ⟨x, ns, v, s, rfl, hT, hv, k1, k2⟩ := h
    obtain ⟨dx, t, hx, ht⟩ := id hT
    refine ⟨_, (pss_one 
  (ps_ret (pe_cmpR op_ne (pe_meth (pv 0) T.cl GB.M GB.F hr GB.b .nil (passes_call (takes_of rfl rfl rfl rfl) (fun _ _ _ _ h => h)) (pa_cons (pv 1) pa_nil)) (pv 1) (nomark _)))), ?_⟩
    refine ⟨_, rfl, x, dx, _, rfl, hx, tf_no _ _ (by decide +kernel) (by decide +kernel), _, rfl, x, ns, v, s, rfl, hT, hv, fun i b ev eb => ?_, k2⟩
    subst ev
    refine ⟨_, rfl, rfl, ?_⟩
    have e : decide (V.int b = V.int ((i : Nat) : Int)) = decide (b = ((i : Nat) : Int)) := by simp
    rw [e]
    exact k1 i b rfl eb
end
end J

set_option Elab.async false
set_option linter.all false
set_option maxRecDepth 100000
set_option maxHeartbeats 4000000
namespace J
open PySem PySem.Spec PyProof.Rows L2
/-! ### which word is due -/
def backB (xs : List V) (k : Nat) : Bool := match xs[k]? with
  | some (.int n) => decide (xs[n.toNat]? = some (.int (k : Nat)))
  | _ => false
def dueS (xs : List V) : Option Str :=
  if 2 ≤ xs.length ∧ xs.length ≤ 4 then
    if ∀ x ∈ xs, wholeB x 0 ((xs.length : Nat) - 1) = true then
      if ∀ k, k < xs.length → backB xs k = true then none else some "back"
    else some "tie"
  else some "count"
def due : Sh → Option Str
  | .lst xs => dueS xs
  | .tup xs => dueS xs
  | _ => some "row"
def items : Sh → List V
  | .lst xs => xs
  | .tup xs => xs
  | _ => []
def Known (H : Hp) (xs : List V) : Prop := ∀ x ∈ xs, ∃ s, Is H x s
theorem Known.keep {H H' : Hp} {xs : List V} (h : Known H xs) (S : Same H H') : Known H' xs := fun x hx => by
  obtain ⟨s, q⟩ := h x hx
  exact ⟨s, q.keep S⟩
/-- what stands behind a due of none -/
structure GoodB (ns : List Int) : Prop where
  lo : 2 ≤ ns.length
  hi : ns.length ≤ 4
  rng : ∀ n ∈ ns, 0 ≤ n ∧ n < (ns.length : Nat)
  inv : ∀ (k : Nat) (b : Int), ns[k]? = some b → ns[b.toNat]? = some (k : Int)
theorem whole_int {x : V} {hi : Int} (h : wholeB x 0 hi = true) : ∃ n : Int, x = .int n ∧ 0 ≤ n ∧ n ≤ hi := by
  cases x with
  | int i =>
    have h' : (decide (0 ≤ i) && decide (i ≤ hi)) = true := h
    obtain ⟨h1, h2⟩ := Bool.and_eq_true_iff.mp h'
    exact ⟨i, rfl, of_decide_eq_true h1, of_decide_eq_true h2⟩
  | _ => cases h
theorem whole_of {n hi : Int} (h : 0 ≤ n) (h2 : n ≤ hi) : wholeB (.int n) 0 hi = true := by
  show (decide (0 ≤ n) && decide (n ≤ hi)) = true
  rw [decide_eq_true h, decide_eq_true h2]
  rfl
theorem all_ints {hi : Int} : ∀ {xs : List V}, (∀ x ∈ xs, wholeB x 0 hi = true) → ∃ ns : List Int, xs = ns.map V.int ∧ ∀ n ∈ ns, 0 ≤ n ∧ n ≤ hi
  | [], _ => ⟨[], rfl, fun n h => by cases h⟩
  | x :: xs, h => by
    obtain ⟨n, rfl, h1, h2⟩ := whole_int (h x List.mem_cons_self)
    obtain ⟨ns, rfl, q⟩ := all_ints (xs := xs) fun y hy => h y (List.mem_cons_of_mem _ hy)
    refine ⟨n :: ns, rfl, fun m hm => ?_⟩
    rcases List.mem_cons.mp hm with rfl | hm
    · exact ⟨h1, h2⟩
    · exact q m hm
theorem ints_at {ns : List Int} {k : Nat} {b : Int} (h : ns[k]? = some b) : (ns.map V.int)[k]? = some (V.int b) := by
  rw [List.getElem?_map, h]
  rfl
theorem backB_iff {ns : List Int} {k : Nat} {b : Int} (h : ns[k]? = some b) : backB (ns.map V.int) k = decide (ns[b.toNat]? = some (k : Int)) := by
  unfold backB
  rw [ints_at h]
  show decide ((ns.map V.int)[b.toNat]? = some (V.int (k : Nat))) = _
  rw [List.getElem?_map]
  cases e : ns[b.toNat]? with
  | none => simp
  | some c => simp
theorem good_of {xs : List V} (h : dueS xs = none) : ∃ ns : List Int, xs = ns.map V.int ∧ GoodB ns := by
  unfold dueS at h
  split at h
  · rename_i h1
    split at h
    · rename_i h2
      split at h
      · rename_i h3
        obtain ⟨ns, rfl, q⟩ := all_ints h2
        rw [List.length_map] at h1 h3 q
        refine ⟨ns, rfl, h1.1, h1.2, fun n hn => ⟨(q n hn).1, by have := (q n hn).2; omega⟩, fun k b hb => ?_⟩
        have hk := (List.getElem?_eq_some_iff.mp hb).1
        have z := h3 k hk
        rw [backB_iff hb] at z
        exact of_decide_eq_true z
      · cases h
    · cases h
  · cases h
theorem due_of {ns : List Int} (g : GoodB ns) : dueS (ns.map V.int) = none := by
  unfold dueS
  rw [List.length_map, if_pos ⟨g.lo, g.hi⟩, if_pos, if_pos]
  · intro k hk
    obtain ⟨b, hb⟩ : ∃ b, ns[k]? = some b := ⟨ns[k], List.getElem?_eq_getElem hk⟩
    rw [backB_iff hb]
    exact decide_eq_true (g.inv k b hb)
  · intro x hx
    obtain ⟨n, hn, rfl⟩ := List.mem_map.mp hx
    have := g.rng n hn
    exact whole_of this.1 (by omega)
theorem Tells.mono {H H1 : Hp} {C : Addr} {f : Str} {v : V} {E : XK} (h : Tells H C f v E) (S : Same H H1) : Tells H1 C f v E := fun d H' n S1 e => h d H' (S.free n) (S.trans S1) e
theorem fault_count {xs : List V} (h : ¬ (2 ≤ xs.length ∧ xs.length ≤ 4)) : dueS xs = some ("count" : Str) := by
  unfold dueS
  rw [if_neg h]
theorem fault_tie {xs : List V} {x : V} (h : 2 ≤ xs.length ∧ xs.length ≤ 4) (hx : x ∈ xs) (e : wholeB x 0 ((xs.length : Nat) - 1) = false) : dueS xs = some ("tie" : Str) := by
  unfold dueS
  rw [if_pos h, if_neg]
  intro q
  rw [q x hx] at e
  cases e
theorem fault_back {xs : List V} {k : Nat} (h : 2 ≤ xs.length ∧ xs.length ≤ 4) (ha : ∀ x ∈ xs, wholeB x 0 ((xs.length : Nat) - 1) = true) (hk : k < xs.length) (e : backB xs k = false) : dueS xs = some ("back" : Str) := by
  unfold dueS
  rw [if_pos h, if_pos ha, if_neg]
  intro q
  rw [q k hk] at e
  cases e
theorem fault_none {xs : List V} (h : 2 ≤ xs.length ∧ xs.length ≤ 4) (ha : ∀ x ∈ xs, wholeB x 0 ((xs.length : Nat) - 1) = true) (e : ∀ k, k < xs.length → backB xs k = true) : dueS xs = none := by
  unfold dueS
  rw [if_pos h, if_pos ha, if_pos e]
def faultV : Option Str → V
  | none => .non
  | some w => .str w
abbrev s_ties_fault : Stmt := top 11
theorem sc_ties_fault : FnScope ["backs", "many", "back", "tie"] ["backs"] (defScope s_ties_fault) := ⟨rfl, rfl, rfl, by decide +kernel, rfl, by decide +kernel, by decide +kernel⟩
def spFault : Sp := fun vs H Q _ => ∃ (v : V) (s : Sh), vs = [v] ∧ Is H v s ∧ Known H (items s) ∧ ∀ H', Same H H' → Q (faultV (due s)) H'
abbrev s_Ties_init : Stmt := inClass (top 10) 0
theorem sc_Ties_init : FnScope ["self", "backs", "what"] ["self", "backs"] (defScope s_Ties_init) := ⟨rfl, rfl, rfl, by decide +kernel, rfl, by decide +kernel, by decide +kernel⟩
def spTies (C CB : Addr) : Sp := fun vs H Q E => ∃ (x dx : Addr) (v : V) (s : Sh), vs = [.ref x, v] ∧ H x = some (.ins C dx []) ∧ Is H v s ∧ Known H (items s) ∧ (∀ w, due s = some w → Tells H CB "what" (.str w) E) ∧
  (∀ ns, due s = none → items s = ns.map V.int → ∀ H', But x H H' → TiesAt C H' x ns → Q .non H')
section
variable {P : Program} {w : World} {K : PySem.W.Frag} {mg : Str → Option Value} {base : Heap}
theorem ok_ties_fault {f fS fW : Addr} {fd fdS fdW : FuncData} (F : Fun K "ties_fault" "ties_fault" s_ties_fault f fd) (nl : mg "len" = none) (nr : mg "range" = none) (na : mg "all" = none) (mM : ∃ t, mg "MOST_TIES" = some (.int 4 t))
    (GS : Cal P w K mg base CX0 1 "is_sequence" fS fdS ["thing"] spSeq) (GW : Cal P w K mg base CX0 1 "is_whole" fW fdW ["thing", "low", "high"] spWhole) : FnOk P w K mg base CX0 2 f fd ["backs"] spFault := by
  obtain ⟨tM, mM⟩ := mM
  refine F.ok sc_ties_fault (fun vs H Q E h => ?_) (fun cdv A outer s H vs Q E hr h => ?_)
  · obtain ⟨v, s, rfl, _⟩ := h
    rfl
  · obtain ⟨v, sh, rfl, hv, kn, k⟩ := h
    cases sh with
    | sc u =>
      refine ⟨_, (pss_cons 
  (ps_if (pt_not (pt_val (pcal GS hr pass0 (pa_cons (pv 0) pa_nil)))) (pss_one 
    (ps_ret pe_str)) pss_nil) (pss_cons 
  (ps_set (i := 1) sc_ties_fault.nd rfl (Or.inr rfl) (pe_callB call_len_seq (by rfl) nl PySem.boot_len (pa_cons (pv 0) pa_nil))) (pss_cons 
  (ps_if (pt_not (pt_chain op_le op_le pe_int (pv 1) (pe_glob (v := .int 4) rfl mM ⟨_, rfl⟩))) (pss_one 
    (ps_ret pe_str)) pss_nil) (pss_cons 
  (ps_if (pt_not (pt_val (pe_callB (cr_all rfl) (by rfl) na (by decide +kernel) (pa_cons (pe_lc (own := [("back", 2)]) (g := gName 2) (by rfl) sc_ties_fault.nd (pi_list (pv 0)) (blkOk_by (own := [("back", 2)]) (N := ["backs", "many", "back", "tie"]) (sc := defScope s_ties_fault) (by decide +kernel)) (fun _ _ _ _ _ => pg_name (i := 2) sc_ties_fault.nd rfl (Or.inl rfl)) (fun _ _ _ _ _ => pts_nil) (fun _ _ _ _ _ => (pcal GW hr pass0 (pa_cons (pv 2) (pa_cons pe_int (pa_cons (pe_op op_sub (pv 1) pe_int) pa_nil)))))) pa_nil)))) (pss_one 
    (ps_ret pe_str)) pss_nil) (pss_cons 
  (ps_if (pt_not (pt_val (pe_callB (cr_all rfl) (by rfl) na (by decide +kernel) (pa_cons (pe_lc (own := [("tie", 3)]) (g := gName 3) (by rfl) sc_ties_fault.nd (pi_range1 (by rfl) nr (pa_cons (pv 1) pa_nil)) (blkOk_by (own := [("tie", 3)]) (N := ["backs", "many", "back", "tie"]) (sc := defScope s_ties_fault) (by decide +kernel)) (fun _ _ _ _ _ => pg_name (i := 3) sc_ties_fault.nd rfl (Or.inl rfl)) (fun _ _ _ _ _ => pts_nil) (fun _ _ _ _ _ => (pe_cmpR op_eq (pe_ix (r := rIxL K) ix_list (pv 0) (pe_ix (r := rIxL K) ix_list (pv 0) (pv 3) (fun _ _ => rfl)) (fun _ _ => rfl)) (pv 3) (nomark _)))) pa_nil)))) (pss_one 
    (ps_ret pe_str)) pss_nil) (pss_one 
  (ps_ret pe_non))))))), ?_⟩
      exact ⟨_, rfl, _, (.sc u), rfl, hv, fun H1 S1 => ⟨_, rfl, iteT (k _ S1)⟩⟩
    | dk =>
      refine ⟨_, (pss_cons 
  (ps_if (pt_not (pt_val (pcal GS hr pass0 (pa_cons (pv 0) pa_nil)))) (pss_one 
    (ps_ret pe_str)) pss_nil) (pss_cons 
  (ps_set (i := 1) sc_ties_fault.nd rfl (Or.inr rfl) (pe_callB call_len_seq (by rfl) nl PySem.boot_len (pa_cons (pv 0) pa_nil))) (pss_cons 
  (ps_if (pt_not (pt_chain op_le op_le pe_int (pv 1) (pe_glob (v := .int 4) rfl mM ⟨_, rfl⟩))) (pss_one 
    (ps_ret pe_str)) pss_nil) (pss_cons 
  (ps_if (pt_not (pt_val (pe_callB (cr_all rfl) (by rfl) na (by decide +kernel) (pa_cons (pe_lc (own := [("back", 2)]) (g := gName 2) (by rfl) sc_ties_fault.nd (pi_list (pv 0)) (blkOk_by (own := [("back", 2)]) (N := ["backs", "many", "back", "tie"]) (sc := defScope s_ties_fault) (by decide +kernel)) (fun _ _ _ _ _ => pg_name (i := 2) sc_ties_fault.nd rfl (Or.inl rfl)) (fun _ _ _ _ _ => pts_nil) (fun _ _ _ _ _ => (pcal GW hr pass0 (pa_cons (pv 2) (pa_cons pe_int (pa_cons (pe_op op_sub (pv 1) pe_int) pa_nil)))))) pa_nil)))) (pss_one 
    (ps_ret pe_str)) pss_nil) (pss_cons 
  (ps_if (pt_not (pt_val (pe_callB (cr_all rfl) (by rfl) na (by decide +kernel) (pa_cons (pe_lc (own := [("tie", 3)]) (g := gName 3) (by rfl) sc_ties_fault.nd (pi_range1 (by rfl) nr (pa_cons (pv 1) pa_nil)) (blkOk_by (own := [("tie", 3)]) (N := ["backs", "many", "back", "tie"]) (sc := defScope s_ties_fault) (by decide +kernel)) (fun _ _ _ _ _ => pg_name (i := 3) sc_ties_fault.nd rfl (Or.inl rfl)) (fun _ _ _ _ _ => pts_nil) (fun _ _ _ _ _ => (pe_cmpR op_eq (pe_ix (r := rIxL K) ix_list (pv 0) (pe_ix (r := rIxL K) ix_list (pv 0) (pv 3) (fun _ _ => rfl)) (fun _ _ => rfl)) (pv 3) (nomark _)))) pa_nil)))) (pss_one 
    (ps_ret pe_str)) pss_nil) (pss_one 
  (ps_ret pe_non))))))), ?_⟩
      exact ⟨_, rfl, _, .dk, rfl, hv, fun H1 S1 => ⟨_, rfl, iteT (k _ S1)⟩⟩
    | lst xs =>
      obtain ⟨p, rfl, hp⟩ := hv
      refine ⟨_, (pss_cons 
  (ps_if (pt_not (pt_val (pcal GS hr pass0 (pa_cons (pv 0) pa_nil)))) (pss_one 
    (ps_ret pe_str)) pss_nil) (pss_cons 
  (ps_set (i := 1) sc_ties_fault.nd rfl (Or.inr rfl) (pe_callB call_len_seq (by rfl) nl PySem.boot_len (pa_cons (pv 0) pa_nil))) (pss_cons 
  (ps_if (pt_not (pt_chain op_le op_le pe_int (pv 1) (pe_glob (v := .int 4) rfl mM ⟨_, rfl⟩))) (pss_one 
    (ps_ret pe_str)) pss_nil) (pss_cons 
  (ps_if (pt_not (pt_val (pe_callB (cr_all rfl) (by rfl) na (by decide +kernel) (pa_cons (pe_lc (own := [("back", 2)]) (g := gName 2) (by rfl) sc_ties_fault.nd (pi_list (pv 0)) (blkOk_by (own := [("back", 2)]) (N := ["backs", "many", "back", "tie"]) (sc := defScope s_ties_fault) (by decide +kernel)) (fun _ _ _ _ _ => pg_name (i := 2) sc_ties_fault.nd rfl (Or.inl rfl)) (fun _ _ _ _ _ => pts_nil) (fun _ _ _ _ _ => (pcal GW hr pass0 (pa_cons (pv 2) (pa_cons pe_int (pa_cons (pe_op op_sub (pv 1) pe_int) pa_nil)))))) pa_nil)))) (pss_one 
    (ps_ret pe_str)) pss_nil) (pss_cons 
  (ps_if (pt_not (pt_val (pe_callB (cr_all rfl) (by rfl) na (by decide +kernel) (pa_cons (pe_lc (own := [("tie", 3)]) (g := gName 3) (by rfl) sc_ties_fault.nd (pi_range1 (by rfl) nr (pa_cons (pv 1) pa_nil)) (blkOk_by (own := [("tie", 3)]) (N := ["backs", "many", "back", "tie"]) (sc := defScope s_ties_fault) (by decide +kernel)) (fun _ _ _ _ _ => pg_name (i := 3) sc_ties_fault.nd rfl (Or.inl rfl)) (fun _ _ _ _ _ => pts_nil) (fun _ _ _ _ _ => (pe_cmpR op_eq (pe_ix (r := rIxL K) ix_list (pv 0) (pe_ix (r := rIxL K) ix_list (pv 0) (pv 3) (fun _ _ => rfl)) (fun _ _ => rfl)) (pv 3) (nomark _)))) pa_nil)))) (pss_one 
    (ps_ret pe_str)) pss_nil) (pss_one 
  (ps_ret pe_non))))))), ?_⟩
      refine ⟨_, rfl, _, .lst xs, rfl, ⟨p, rfl, hp⟩, fun H1 S1 => ⟨_, rfl, iteF ?_⟩⟩
      have h1 := S1 _ _ hp
      have kn1 : Known H1 xs := kn.keep S1
      have say : ∀ (H2 : Hp) (o : Option Str), Same H1 H2 → dueS xs = o → Q (faultV o) H2 := fun H2 o S2 e => by
        have z := k _ (S1.trans S2)
        have e2 : due (.lst xs) = o := e
        rw [e2] at z
        exact z
      refine ⟨_, rfl, p, xs, rfl, .inl (SqL.of h1), ?_⟩
      refine ⟨_, rfl, _, _, rfl, rfl, _, rfl, ?_⟩
      by_cases c1 : (2 : Int) ≤ ((xs.length : Nat) : Int)
      case neg => exact if_fa (decide_eq_false c1) ⟨_, rfl, iteT (say _ (some "count") (Same.refl _) (fault_count (by omega)))⟩
      refine if_tr (decide_eq_true c1) ⟨_, _, rfl, rfl, _, rfl, ?_⟩
      by_cases c2 : ((xs.length : Nat) : Int) ≤ 4
      case neg =>
        rw [decide_eq_false c2]
        exact iteT (say _ (some "count") (Same.refl _) (fault_count (by omega)))
      rw [decide_eq_true c2]
      refine iteF ?_
      have c12 : 2 ≤ xs.length ∧ xs.length ≤ 4 := by omega
      refine ⟨_, rfl, p, rfl, ⟨_, SqL.of h1⟩, fun D hD => ?_⟩
      refine lc_list (K := K) (a := p) (xs := xs) (fun i H2 => Same H1 H2 ∧ H1 D = none ∧ H2 D = some (.lst ((xs.take i).map fun y => V.bl (wholeB y 0 ((xs.length : Nat) - 1))))) ⟨new_same hD, hD, upd_same⟩ (fun i H2 _ ⟨S, _⟩ => SqL.of (S _ _ h1)) ?_ ?_
      · rintro i y H2 hy ⟨S2, D0, eD⟩
        have hi := (List.getElem?_eq_some_iff.mp hy).1
        obtain ⟨sy, isy⟩ := kn1 y (List.mem_of_getElem? hy)
        refine ⟨rfl, yesT ?_⟩
        refine ⟨_, rfl, _, rfl, _, _, rfl, rfl, y, sy, _, _, rfl, isy.keep S2, _, eD, small1000 (by rw [List.length_map, List.length_take]; omega), fun b o e => ?_, D0, by rw [upd_same, List.take_add_one, hy, List.map_append]; rfl⟩
        rw [upd_ne (ne_of_none e D0)]
        exact S2 _ _ e
      rintro H2 ⟨S2, D0, eD⟩
      rw [List.take_length] at eD
      refine ⟨D, xs.map fun y => wholeB y 0 ((xs.length : Nat) - 1), rfl, SqL.of (by rw [eD, List.map_map]; rfl), _, rfl, ?_⟩
      cases ea : (xs.map fun y => wholeB y 0 ((xs.length : Nat) - 1)).all id with
      | false =>
        refine iteT (say _ (some "tie") S2 ?_)
        rw [List.all_map, List.all_eq_false] at ea
        obtain ⟨x, hx, hw⟩ := ea
        exact fault_tie c12 hx (by simpa using hw)
      | true =>
        refine iteF ?_
        rw [List.all_map, List.all_eq_true] at ea
        have hall : ∀ x ∈ xs, wholeB x 0 ((xs.length : Nat) - 1) = true := fun x hx => ea x hx
        obtain ⟨ns, hns, hr2⟩ := all_ints hall
        have hln : xs.length = ns.length := by rw [hns, List.length_map]
        refine ⟨_, rfl, (xs.length : Nat), rfl, by omega, by omega, fun E' hE => ?_⟩
        refine lc_range (lo := 0) (n := xs.length) (fun i H3 => Same H2 H3 ∧ H2 E' = none ∧ H3 E' = some (.lst ((List.range i).map fun j => V.bl (backB xs j)))) ⟨new_same hE, hE, upd_same⟩ ?_ ?_
        · rintro i H3 hi ⟨S3, E0, eE⟩
          have h3 := S3 _ _ (S2 _ _ h1)
          have hi' : i < ns.length := by omega
          have hbi : ns[i]? = some ns[i] := List.getElem?_eq_getElem hi'
          have hmem := hr2 _ (List.getElem_mem hi')
          generalize ns[i] = b at hbi hmem
          have hbl : b.toNat < ns.length := by omega
          have hci : ns[b.toNat]? = some ns[b.toNat] := List.getElem?_eq_getElem hbl
          generalize ns[b.toNat] = c at hci
          have hbk := backB_iff hbi
          rw [← hns, hci] at hbk
          have val : decide (V.int c = V.int (0 + (i : Nat))) = backB xs i := by
            rw [hbk]
            by_cases z : c = (i : Int) <;> simp [z]
          refine ⟨rfl, yesT ?_⟩
          refine ⟨_, rfl, _, rfl, _, rfl, _, _, _, _, rfl, rfl, SqL.of h3, at_of (j := i) (v := .int b) (by omega) (by rw [hns]; exact ints_at hbi), _, _, _, _, rfl, rfl, SqL.of h3, at_of (j := b.toNat) (v := .int c) (by omega) (by rw [hns]; exact ints_at hci), _, rfl, rfl, _, eE, small1000 (by rw [List.length_map, List.length_range]; omega), fun b' o e => ?_, E0, ?_⟩
          · rw [upd_ne (ne_of_none e E0)]
            exact S3 _ _ e
          · rw [upd_same, val, List.range_succ, List.map_append]
            rfl
        rintro H3 ⟨S3, E0, eE⟩
        refine ⟨E', (List.range xs.length).map (backB xs), rfl, SqL.of (by rw [eE, List.map_map]; rfl), _, rfl, ?_⟩
        cases eb : ((List.range xs.length).map (backB xs)).all id with
        | false =>
          refine iteT (say _ (some "back") (S2.trans S3) ?_)
          rw [List.all_map, List.all_eq_false] at eb
          obtain ⟨j, hj, hw⟩ := eb
          exact fault_back c12 hall (List.mem_range.mp hj) (by simpa using hw)
        | true =>
          refine iteF (say _ none (S2.trans S3) ?_)
          rw [List.all_map, List.all_eq_true] at eb
          exact fault_none c12 hall fun j hj => eb j (List.mem_range.mpr hj)
    | tup xs =>
      obtain ⟨p, rfl, hp⟩ := hv
      refine ⟨_, (pss_cons 
  (ps_if (pt_not (pt_val (pcal GS hr pass0 (pa_cons (pv 0) pa_nil)))) (pss_one 
    (ps_ret pe_str)) pss_nil) (pss_cons 
  (ps_set (i := 1) sc_ties_fault.nd rfl (Or.inr rfl) (pe_callB call_len_seq (by rfl) nl PySem.boot_len (pa_cons (pv 0) pa_nil))) (pss_cons 
  (ps_if (pt_not (pt_chain op_le op_le pe_int (pv 1) (pe_glob (v := .int 4) rfl mM ⟨_, rfl⟩))) (pss_one 
    (ps_ret pe_str)) pss_nil) (pss_cons 
  (ps_if (pt_not (pt_val (pe_callB (cr_all rfl) (by rfl) na (by decide +kernel) (pa_cons (pe_lc (own := [("back", 2)]) (g := gName 2) (by rfl) sc_ties_fault.nd (pi_tup (pv 0)) (blkOk_by (own := [("back", 2)]) (N := ["backs", "many", "back", "tie"]) (sc := defScope s_ties_fault) (by decide +kernel)) (fun _ _ _ _ _ => pg_name (i := 2) sc_ties_fault.nd rfl (Or.inl rfl)) (fun _ _ _ _ _ => pts_nil) (fun _ _ _ _ _ => (pcal GW hr pass0 (pa_cons (pv 2) (pa_cons pe_int (pa_cons (pe_op op_sub (pv 1) pe_int) pa_nil)))))) pa_nil)))) (pss_one 
    (ps_ret pe_str)) pss_nil) (pss_cons 
  (ps_if (pt_not (pt_val (pe_callB (cr_all rfl) (by rfl) na (by decide +kernel) (pa_cons (pe_lc (own := [("tie", 3)]) (g := gName 3) (by rfl) sc_ties_fault.nd (pi_range1 (by rfl) nr (pa_cons (pv 1) pa_nil)) (blkOk_by (own := [("tie", 3)]) (N := ["backs", "many", "back", "tie"]) (sc := defScope s_ties_fault) (by decide +kernel)) (fun _ _ _ _ _ => pg_name (i := 3) sc_ties_fault.nd rfl (Or.inl rfl)) (fun _ _ _ _ _ => pts_nil) (fun _ _ _ _ _ => (pe_cmpR op_eq (pe_ix (r := rIxT K) ix_tup (pv 0) (pe_ix (r := rIxT K) ix_tup (pv 0) (pv 3) (fun _ _ => rfl)) (fun _ _ => rfl)) (pv 3) (nomark _)))) pa_nil)))) (pss_one 
    (ps_ret pe_str)) pss_nil) (pss_one 
  (ps_ret pe_non))))))), ?_⟩
      refine ⟨_, rfl, _, .tup xs, rfl, ⟨p, rfl, hp⟩, fun H1 S1 => ⟨_, rfl, iteF ?_⟩⟩
      have h1 := S1 _ _ hp
      have kn1 : Known H1 xs := kn.keep S1
      have say : ∀ (H2 : Hp) (o : Option Str), Same H1 H2 → dueS xs = o → Q (faultV o) H2 := fun H2 o S2 e => by
        have z := k _ (S1.trans S2)
        have e2 : due (.tup xs) = o := e
        rw [e2] at z
        exact z
      refine ⟨_, rfl, p, xs, rfl, .inr (SqT.of h1), ?_⟩
      refine ⟨_, rfl, _, _, rfl, rfl, _, rfl, ?_⟩
      by_cases c1 : (2 : Int) ≤ ((xs.length : Nat) : Int)
      case neg => exact if_fa (decide_eq_false c1) ⟨_, rfl, iteT (say _ (some "count") (Same.refl _) (fault_count (by omega)))⟩
      refine if_tr (decide_eq_true c1) ⟨_, _, rfl, rfl, _, rfl, ?_⟩
      by_cases c2 : ((xs.length : Nat) : Int) ≤ 4
      case neg =>
        rw [decide_eq_false c2]
        exact iteT (say _ (some "count") (Same.refl _) (fault_count (by omega)))
      rw [decide_eq_true c2]
      refine iteF ?_
      have c12 : 2 ≤ xs.length ∧ xs.length ≤ 4 := by omega
      refine ⟨_, rfl, p, rfl, ⟨_, SqT.of h1⟩, fun D hD => ?_⟩
      refine lc_tup (K := K) (a := p) (xs := xs) (fun i H2 => Same H1 H2 ∧ H1 D = none ∧ H2 D = some (.lst ((xs.take i).map fun y => V.bl (wholeB y 0 ((xs.length : Nat) - 1))))) ⟨new_same hD, hD, upd_same⟩ (fun i H2 _ ⟨S, _⟩ => SqT.of (S _ _ h1)) ?_ ?_
      · rintro i y H2 hy ⟨S2, D0, eD⟩
        have hi := (List.getElem?_eq_some_iff.mp hy).1
        obtain ⟨sy, isy⟩ := kn1 y (List.mem_of_getElem? hy)
        refine ⟨rfl, yesT ?_⟩
        refine ⟨_, rfl, _, rfl, _, _, rfl, rfl, y, sy, _, _, rfl, isy.keep S2, _, eD, small1000 (by rw [List.length_map, List.length_take]; omega), fun b o e => ?_, D0, by rw [upd_same, List.take_add_one, hy, List.map_append]; rfl⟩
        rw [upd_ne (ne_of_none e D0)]
        exact S2 _ _ e
      rintro H2 ⟨S2, D0, eD⟩
      rw [List.take_length] at eD
      refine ⟨D, xs.map fun y => wholeB y 0 ((xs.length : Nat) - 1), rfl, SqL.of (by rw [eD, List.map_map]; rfl), _, rfl, ?_⟩
      cases ea : (xs.map fun y => wholeB y 0 ((xs.length : Nat) - 1)).all id with
      | false =>
        refine iteT (say _ (some "tie") S2 ?_)
        rw [List.all_map, List.all_eq_false] at ea
        obtain ⟨x, hx, hw⟩ := ea
        exact fault_tie c12 hx (by simpa using hw)
      | true =>
        refine iteF ?_
        rw [List.all_map, List.all_eq_true] at ea
        have hall : ∀ x ∈ xs, wholeB x 0 ((xs.length : Nat) - 1) = true := fun x hx => ea x hx
        obtain ⟨ns, hns, hr2⟩ := all_ints hall
        have hln : xs.length = ns.length := by rw [hns, List.length_map]
        refine ⟨_, rfl, (xs.length : Nat), rfl, by omega, by omega, fun E' hE => ?_⟩
        refine lc_range (lo := 0) (n := xs.length) (fun i H3 => Same H2 H3 ∧ H2 E' = none ∧ H3 E' = some (.lst ((List.range i).map fun j => V.bl (backB xs j)))) ⟨new_same hE, hE, upd_same⟩ ?_ ?_
        · rintro i H3 hi ⟨S3, E0, eE⟩
          have h3 := S3 _ _ (S2 _ _ h1)
          have hi' : i < ns.length := by omega
          have hbi : ns[i]? = some ns[i] := List.getElem?_eq_getElem hi'
          have hmem := hr2 _ (List.getElem_mem hi')
          generalize ns[i] = b at hbi hmem
          have hbl : b.toNat < ns.length := by omega
          have hci : ns[b.toNat]? = some ns[b.toNat] := List.getElem?_eq_getElem hbl
          generalize ns[b.toNat] = c at hci
          have hbk := backB_iff hbi
          rw [← hns, hci] at hbk
          have val : decide (V.int c = V.int (0 + (i : Nat))) = backB xs i := by
            rw [hbk]
            by_cases z : c = (i : Int) <;> simp [z]
          refine ⟨rfl, yesT ?_⟩
          refine ⟨_, rfl, _, rfl, _, rfl, _, _, _, _, rfl, rfl, SqT.of h3, at_of (j := i) (v := .int b) (by omega) (by rw [hns]; exact ints_at hbi), _, _, _, _, rfl, rfl, SqT.of h3, at_of (j := b.toNat) (v := .int c) (by omega) (by rw [hns]; exact ints_at hci), _, rfl, rfl, _, eE, small1000 (by rw [List.length_map, List.length_range]; omega), fun b' o e => ?_, E0, ?_⟩
          · rw [upd_ne (ne_of_none e E0)]
            exact S3 _ _ e
          · rw [upd_same, val, List.range_succ, List.map_append]
            rfl
        rintro H3 ⟨S3, E0, eE⟩
        refine ⟨E', (List.range xs.length).map (backB xs), rfl, SqL.of (by rw [eE, List.map_map]; rfl), _, rfl, ?_⟩
        cases eb : ((List.range xs.length).map (backB xs)).all id with
        | false =>
          refine iteT (say _ (some "back") (S2.trans S3) ?_)
          rw [List.all_map, List.all_eq_false] at eb
          obtain ⟨j, hj, hw⟩ := eb
          exact fault_back c12 hall (List.mem_range.mp hj) (by simpa using hw)
        | true =>
          refine iteF (say _ none (S2.trans S3) ?_)
          rw [List.all_map, List.all_eq_true] at eb
          exact fault_none c12 hall fun j hj => eb j (List.mem_range.mpr hj)
theorem ok_Ties_init {f C CB fC fI : Addr} {fd fdC fdI : FuncData} (F : Fun K "__init__" "Ties.__init__" s_Ties_init f fd) (T : TiC K C) (nl : mg "len" = none) (nt : mg "tuple" = none)
    (GF : Cal P w K mg base CX0 2 "ties_fault" fC fdC ["backs"] spFault) (GB : Ex P w K mg base "BadTies" "what" CB fI fdI ["self", "what"]) : FnOk P w K mg base (L2.CX P w) 4 f fd ["self", "backs"] (spTies C CB) := by
  refine F.okX sc_Ties_init (fun vs H Q E h => ?_) (fun cdv A outer s H vs Q E hr h => ?_)
  · obtain ⟨x, dx, v, s, rfl, _⟩ := h
    rfl
  · obtain ⟨x, dx, v, sh, rfl, hx, hv, kn, k1, k2⟩ := h
    refine ⟨_, (pss_cons 
  (ps_set (i := 2) sc_Ties_init.nd rfl (Or.inl rfl) (pcal GF hr pass0 (pa_cons (pv 1) pa_nil))) (pss_cons 
  (ps_if (pt_cmpR op_notN (pv 2) pe_non (nomark _)) (pss_one 
    (ps_raise rfl (takes_of rfl rfl rfl rfl) (pmk_oex GB.o GB.i GB.t GB.F (hr.mono (by decide)) GB.b .nil pass0 rfl GB.m (pa_cons (pv 2) pa_nil)))) pss_nil) (pss_cons 
  (ps_fld (pv 0) (pe_callTy (T := "tuple") (r := fun xs H Q => ∃ p ys, xs = [.ref p] ∧ ((SqL K H p ys ∧ ∀ l, H l = none → Q (.ref l) (upd H l (.tup ys))) ∨ (SqT K H p ys ∧ Q (.ref p) H))) call_tuple_of (by rfl) nt (by decide +kernel) (pa_cons (pv 1) pa_nil)) rfl) (pss_one 
  (ps_fld (pv 0) (pe_callB call_len_seq (by rfl) nl PySem.boot_len (pa_cons (pe_fld (pv 0) rfl) pa_nil)) rfl))))), ?_⟩
    refine ⟨_, rfl, v, sh, rfl, hv, kn, fun H1 S1 => ?_⟩
    have k1' := k1
    cases hd : due sh with
    | some u =>
      refine ⟨_, rfl, rfl, _, rfl, if_tr (by simp [faultV]) ⟨_, rfl, mkO_of ((k1 u hd).mono S1)⟩⟩
    | none =>
      refine ⟨_, rfl, rfl, _, rfl, if_fa (by simp [faultV]) ?_⟩
      have hx1 := S1 _ _ hx
      cases sh with
      | sc u => cases hd
      | dk => cases hd
      | lst xs =>
        obtain ⟨p, rfl, hp⟩ := hv
        obtain ⟨ns, e, g⟩ := good_of hd
        subst e
        have npx : p ≠ x := ne_of hp hx (by intro z; cases z)
        have h1 := S1 _ _ hp
        refine ⟨_, rfl, p, _, rfl, .inl ⟨SqL.of h1, fun t ht => ?_⟩⟩
        have ntx : t ≠ x := (ne_of_none hx1 ht).symm
        refine ⟨_, rfl, x, C, dx, [], rfl, (by rw [upd_ne ntx.symm]; exact hx1), T.cl, T.nB, (by show 0 < 1000; decide), ?_⟩
        refine ⟨_, rfl, x, C, dx, _, _, rfl, upd_same, T.cl, T.nB, (by rw [lookup_putF, if_pos rfl]), t, _, rfl, .inr (SqT.of (by rw [upd_ne ntx, upd_same])), ?_⟩
        refine ⟨_, rfl, x, C, dx, _, rfl, upd_same, T.cl, T.nM, (by show 1 < 1000; decide), ?_⟩
        refine k2 ns hd rfl _ (fun b o nb eb => ?_) ⟨dx, t, by rw [upd_same, List.length_map]; rfl, by rw [upd_ne ntx, upd_ne ntx, upd_same]⟩
        have e1 := S1 _ _ eb
        rw [upd_ne nb, upd_ne nb, upd_ne (ne_of_none e1 ht)]
        exact e1
      | tup xs =>
        obtain ⟨p, rfl, hp⟩ := hv
        obtain ⟨ns, e, g⟩ := good_of hd
        subst e
        have npx : p ≠ x := ne_of hp hx (by intro z; cases z)
        have h1 := S1 _ _ hp
        refine ⟨_, rfl, p, _, rfl, .inr ⟨SqT.of h1, ?_⟩⟩
        refine ⟨_, rfl, x, C, dx, [], rfl, hx1, T.cl, T.nB, (by show 0 < 1000; decide), ?_⟩
        refine ⟨_, rfl, x, C, dx, _, _, rfl, upd_same, T.cl, T.nB, (by rw [lookup_putF, if_pos rfl]), p, _, rfl, .inr (SqT.of (by rw [upd_ne npx]; exact h1)), ?_⟩
        refine ⟨_, rfl, x, C, dx, _, rfl, upd_same, T.cl, T.nM, (by show 1 < 1000; decide), ?_⟩
        refine k2 ns hd rfl _ (fun b o nb eb => ?_) ⟨dx, p, by rw [upd_same, List.length_map]; rfl, by rw [upd_ne npx, upd_ne npx]; exact h1⟩
        rw [upd_ne nb, upd_ne nb]
        exact S1 _ _ eb
end
end J

set_option Elab.async false
set_option linter.all false
set_option maxRecDepth 100000
set_option maxHeartbeats 4000000
namespace J
open PySem PySem.Spec PyProof.Rows L2
def wordV : Option Str → V
  | none => .non
  | some w => .str w
abbrev s_Ldue : Stmt := top 18
theorem sc_Ldue : FnScope ["_law_thing_here", "_law_entry", "_law_k"] ["_law_thing_here"] (defScope s_Ldue) := ⟨rfl, rfl, rfl, by decide +kernel, rfl, by decide +kernel, by decide +kernel⟩
def spDue : Sp := fun vs H Q E => ∃ (v : V) (s : Sh), vs = [v] ∧ Is H v s ∧ Known H (items s) ∧ ∀ H', Same H H' → Q (wordV (due s)) H'
theorem dueS_count {xs : List V} (h : ¬ (2 ≤ xs.length ∧ xs.length ≤ 4)) : dueS xs = some ("count" : Str) := by
  unfold dueS
  rw [if_neg h]
theorem dueS_tie {xs : List V} {x : V} (h : 2 ≤ xs.length ∧ xs.length ≤ 4) (hx : x ∈ xs) (e : wholeB x 0 ((xs.length : Nat) - 1) = false) : dueS xs = some ("tie" : Str) := by
  unfold dueS
  rw [if_pos h, if_neg]
  intro q
  rw [q x hx] at e
  cases e
theorem dueS_back {xs : List V} {k : Nat} (h : 2 ≤ xs.length ∧ xs.length ≤ 4) (ha : ∀ x ∈ xs, wholeB x 0 ((xs.length : Nat) - 1) = true) (hk : k < xs.length) (e : backB xs k = false) : dueS xs = some ("back" : Str) := by
  unfold dueS
  rw [if_pos h, if_pos ha, if_neg]
  intro q
  rw [q k hk] at e
  cases e
theorem dueS_none {xs : List V} (h : 2 ≤ xs.length ∧ xs.length ≤ 4) (ha : ∀ x ∈ xs, wholeB x 0 ((xs.length : Nat) - 1) = true) (e : ∀ k, k < xs.length → backB xs k = true) : dueS xs = none := by
  unfold dueS
  rw [if_pos h, if_pos ha, if_pos e]
theorem whole_lo {n lo hi : Int} (h : ¬ lo ≤ n) : wholeB (.int n) lo hi = false := by
  show (decide (lo ≤ n) && decide (n ≤ hi)) = false
  rw [decide_eq_false h]
  rfl
theorem whole_hi {n lo hi : Int} (h : ¬ n ≤ hi) : wholeB (.int n) lo hi = false := by
  show (decide (lo ≤ n) && decide (n ≤ hi)) = false
  rw [decide_eq_false h, Bool.and_false]
theorem is_new {K : PySem.W.Frag} {H : Hp} {x : V} {s : Sh} {p : Addr} (hx : Is H x s) (hp : H p = none) : ∃ t : String, TyX K (upd H p (.tup [.ty "list", .ty "tuple"])) x (.type t) ∧ PySem.W.kitAny K (.type t) [.type "list", .type "tuple"] = some (s.isL || s.isT) := by
  obtain ⟨t, ht, _, _, k1, k2⟩ := (hx.keep (new_same hp)).ty (K := K)
  exact ⟨t, ht, kit_seq k1 k2⟩
theorem isi_seq2 {K : PySem.W.Frag} {H : Hp} {x : V} {s : Sh} {Q : VK} {p : Addr} (hx : Is H x s) (hp : H p = none) (k : ∀ H', Same H H' → Q (.bl (s.isL || s.isT)) H') : rIsiT K [x, .ref p] (upd H p (.tup [.ty "list", .ty "tuple"])) Q := (isi_seq hx k).2 p hp
section
variable {P : Program} {w : World} {K : PySem.W.Frag} {mg : Str → Option Value} {base : Heap}
theorem ok_Ldue {f : Addr} {fd : FuncData} (F : Fun K "_law_due" "_law_due" s_Ldue f fd) (nl : mg "len" = none) (nt : mg "tuple" = none) (nli : mg "list" = none) (nis : mg "isinstance" = none) (ni : mg "int" = none) (nb : mg "bool" = none) (nr : mg "range" = none) :
    FnOk P w K mg base CX0 1 f fd ["_law_thing_here"] spDue := by
  refine F.ok sc_Ldue (fun vs H Q E h => ?_) (fun cdv A outer s H vs Q E hr h => ?_)
  · obtain ⟨v, s, rfl, _⟩ := h
    rfl
  · obtain ⟨v, sh, rfl, hv, kn, k⟩ := h
    cases sh with
    | sc u =>
      refine ⟨_, (pss_cons 
  (ps_if (pt_not (pt_val (pe_callB call_isiT (by rfl) nis (by decide +kernel) (pa_cons (pv 0) (pa_cons (pe_tup (pa_cons (pe_bltn (by rfl) nli (by decide +kernel) (v := .ty "list") rfl) (pa_cons (pe_bltn (by rfl) nt (by decide +kernel) (v := .ty "tuple") rfl) pa_nil))) pa_nil))))) (pss_one 
    (ps_ret pe_str)) pss_nil) (pss_cons 
  (ps_if (PW.pt (pw_or (pt_cmpR op_lt (pe_callB call_len_seq (by rfl) nl PySem.boot_len (pa_cons (pv 0) pa_nil)) pe_int (nomark _)) (pw_or1 (pt_cmpR op_gt (pe_callB call_len_seq (by rfl) nl PySem.boot_len (pa_cons (pv 0) pa_nil)) pe_int (nomark _))))) (pss_one 
    (ps_ret pe_str)) pss_nil) (pss_cons 
  (ps_for PassesOwn.never rfl (pi_list (pv 0)) (pg_name (i := 1) sc_Ldue.nd rfl (Or.inl rfl)) (pss_one 
    (ps_if (PW.pt (pw_or (pt_not (pt_val (pe_callB call_isi (by rfl) nis (by decide +kernel) (pa_cons (pv 1) (pa_cons (pe_bltn (by rfl) ni (by decide +kernel) (v := .ty "int") rfl) pa_nil))))) (pw_or (pt_val (pe_callB call_isi (by rfl) nis (by decide +kernel) (pa_cons (pv 1) (pa_cons (pe_bltn (by rfl) nb (by decide +kernel) (v := .ty "bool") rfl) pa_nil)))) (pw_or (pt_cmpR op_lt (pv 1) pe_int (nomark _)) (pw_or1 (pt_cmpR op_ge (pv 1) (pe_callB call_len_seq (by rfl) nl PySem.boot_len (pa_cons (pv 0) pa_nil)) (nomark _))))))) (pss_one 
      (ps_ret pe_str)) pss_nil))) (pss_cons 
  (ps_for PassesOwn.never rfl (pi_range1 (by rfl) nr (pa_cons (pe_callB call_len_seq (by rfl) nl PySem.boot_len (pa_cons (pv 0) pa_nil)) pa_nil)) (pg_name (i := 2) sc_Ldue.nd rfl (Or.inl rfl)) (pss_one 
    (ps_if (pt_cmpR op_ne (pe_ix ix_list (pv 0) (pe_ix ix_list (pv 0) (pv 2) (fun _ _ => rfl)) (fun _ _ => rfl)) (pv 2) (nomark _)) (pss_one 
      (ps_ret pe_str)) pss_nil))) (pss_one 
  (ps_ret pe_non)))))), ?_⟩
      refine ⟨_, rfl, (by show 2 ≤ sizeLine; decide), fun p2 hp2 => ?_⟩
      obtain ⟨t2, ht2, kk⟩ := is_new (K := K) hv hp2
      exact ⟨_, _, _, _, _, _, rfl, upd_same, .cons (.ty "list") (.cons (.ty "tuple") .nil), ht2, kk, _, rfl, iteT (k _ (new_same hp2))⟩
    | dk =>
      refine ⟨_, (pss_cons 
  (ps_if (pt_not (pt_val (pe_callB call_isiT (by rfl) nis (by decide +kernel) (pa_cons (pv 0) (pa_cons (pe_tup (pa_cons (pe_bltn (by rfl) nli (by decide +kernel) (v := .ty "list") rfl) (pa_cons (pe_bltn (by rfl) nt (by decide +kernel) (v := .ty "tuple") rfl) pa_nil))) pa_nil))))) (pss_one 
    (ps_ret pe_str)) pss_nil) (pss_cons 
  (ps_if (PW.pt (pw_or (pt_cmpR op_lt (pe_callB call_len_seq (by rfl) nl PySem.boot_len (pa_cons (pv 0) pa_nil)) pe_int (nomark _)) (pw_or1 (pt_cmpR op_gt (pe_callB call_len_seq (by rfl) nl PySem.boot_len (pa_cons (pv 0) pa_nil)) pe_int (nomark _))))) (pss_one 
    (ps_ret pe_str)) pss_nil) (pss_cons 
  (ps_for PassesOwn.never rfl (pi_list (pv 0)) (pg_name (i := 1) sc_Ldue.nd rfl (Or.inl rfl)) (pss_one 
    (ps_if (PW.pt (pw_or (pt_not (pt_val (pe_callB call_isi (by rfl) nis (by decide +kernel) (pa_cons (pv 1) (pa_cons (pe_bltn (by rfl) ni (by decide +kernel) (v := .ty "int") rfl) pa_nil))))) (pw_or (pt_val (pe_callB call_isi (by rfl) nis (by decide +kernel) (pa_cons (pv 1) (pa_cons (pe_bltn (by rfl) nb (by decide +kernel) (v := .ty "bool") rfl) pa_nil)))) (pw_or (pt_cmpR op_lt (pv 1) pe_int (nomark _)) (pw_or1 (pt_cmpR op_ge (pv 1) (pe_callB call_len_seq (by rfl) nl PySem.boot_len (pa_cons (pv 0) pa_nil)) (nomark _))))))) (pss_one 
      (ps_ret pe_str)) pss_nil))) (pss_cons 
  (ps_for PassesOwn.never rfl (pi_range1 (by rfl) nr (pa_cons (pe_callB call_len_seq (by rfl) nl PySem.boot_len (pa_cons (pv 0) pa_nil)) pa_nil)) (pg_name (i := 2) sc_Ldue.nd rfl (Or.inl rfl)) (pss_one 
    (ps_if (pt_cmpR op_ne (pe_ix ix_list (pv 0) (pe_ix ix_list (pv 0) (pv 2) (fun _ _ => rfl)) (fun _ _ => rfl)) (pv 2) (nomark _)) (pss_one 
      (ps_ret pe_str)) pss_nil))) (pss_one 
  (ps_ret pe_non)))))), ?_⟩
      refine ⟨_, rfl, (by show 2 ≤ sizeLine; decide), fun p2 hp2 => ?_⟩
      obtain ⟨t2, ht2, kk⟩ := is_new (K := K) hv hp2
      exact ⟨_, _, _, _, _, _, rfl, upd_same, .cons (.ty "list") (.cons (.ty "tuple") .nil), ht2, kk, _, rfl, iteT (k _ (new_same hp2))⟩
    | lst xs =>
      obtain ⟨p, rfl, hp⟩ := hv
      refine ⟨_, (pss_cons 
  (ps_if (pt_not (pt_val (pe_callB call_isiT (by rfl) nis (by decide +kernel) (pa_cons (pv 0) (pa_cons (pe_tup (pa_cons (pe_bltn (by rfl) nli (by decide +kernel) (v := .ty "list") rfl) (pa_cons (pe_bltn (by rfl) nt (by decide +kernel) (v := .ty "tuple") rfl) pa_nil))) pa_nil))))) (pss_one 
    (ps_ret pe_str)) pss_nil) (pss_cons 
  (ps_if (PW.pt (pw_or (pt_cmpR op_lt (pe_callB call_len_seq (by rfl) nl PySem.boot_len (pa_cons (pv 0) pa_nil)) pe_int (nomark _)) (pw_or1 (pt_cmpR op_gt (pe_callB call_len_seq (by rfl) nl PySem.boot_len (pa_cons (pv 0) pa_nil)) pe_int (nomark _))))) (pss_one 
    (ps_ret pe_str)) pss_nil) (pss_cons 
  (ps_for PassesOwn.never rfl (pi_list (pv 0)) (pg_name (i := 1) sc_Ldue.nd rfl (Or.inl rfl)) (pss_one 
    (ps_if (PW.pt (pw_or (pt_not (pt_val (pe_callB call_isi (by rfl) nis (by decide +kernel) (pa_cons (pv 1) (pa_cons (pe_bltn (by rfl) ni (by decide +kernel) (v := .ty "int") rfl) pa_nil))))) (pw_or (pt_val (pe_callB call_isi (by rfl) nis (by decide +kernel) (pa_cons (pv 1) (pa_cons (pe_bltn (by rfl) nb (by decide +kernel) (v := .ty "bool") rfl) pa_nil)))) (pw_or (pt_cmpR op_lt (pv 1) pe_int (nomark _)) (pw_or1 (pt_cmpR op_ge (pv 1) (pe_callB call_len_seq (by rfl) nl PySem.boot_len (pa_cons (pv 0) pa_nil)) (nomark _))))))) (pss_one 
      (ps_ret pe_str)) pss_nil))) (pss_cons 
  (ps_for PassesOwn.never rfl (pi_range1 (by rfl) nr (pa_cons (pe_callB call_len_seq (by rfl) nl PySem.boot_len (pa_cons (pv 0) pa_nil)) pa_nil)) (pg_name (i := 2) sc_Ldue.nd rfl (Or.inl rfl)) (pss_one 
    (ps_if (pt_cmpR op_ne (pe_ix ix_list (pv 0) (pe_ix ix_list (pv 0) (pv 2) (fun _ _ => rfl)) (fun _ _ => rfl)) (pv 2) (nomark _)) (pss_one 
      (ps_ret pe_str)) pss_nil))) (pss_one 
  (ps_ret pe_non)))))), ?_⟩
      refine ⟨_, rfl, (by show 2 ≤ sizeLine; decide), fun p2 hp2 => ?_⟩
      obtain ⟨t2, ht2, kk⟩ := is_new (K := K) (s := .lst xs) ⟨p, rfl, hp⟩ hp2
      refine ⟨_, _, _, _, _, _, rfl, upd_same, .cons (.ty "list") (.cons (.ty "tuple") .nil), ht2, kk, _, rfl, iteF ?_⟩
      have S1 : Same H (upd H p2 (.tup [.ty "list", .ty "tuple"])) := new_same hp2
      generalize upd H p2 (.tup [.ty "list", .ty "tuple"]) = H1 at S1
      have h1 := S1 _ _ hp
      have kn1 : Known H1 xs := kn.keep S1
      have say : ∀ w, dueS xs = some w → Q (.str w) H1 := fun w e => by
        have z := k _ S1
        have e2 : due (.lst xs) = some w := e
        rw [e2] at z
        exact z
      refine ⟨_, rfl, p, xs, rfl, .inl (SqL.of h1), _, _, rfl, rfl, _, rfl, ?_⟩
      refine ifD (fun c1 => iteT (say "count" (dueS_count (by omega)))) fun c1 => ?_
      refine ⟨_, rfl, p, xs, rfl, .inl (SqL.of h1), _, _, rfl, rfl, _, rfl, ?_⟩
      refine ifD (fun c2 => say "count" (dueS_count (by omega))) fun c2 => ?_
      have c12 : 2 ≤ xs.length ∧ xs.length ≤ 4 := by omega
      refine ⟨_, rfl, p, rfl, ⟨_, SqL.of h1⟩, for_list (K := K) (a := p) (xs := xs) (fun i σ H' => ∃ v2 : Option V, σ = [some (.ref p), v2, none] ∧ H' = H1 ∧ ∀ j x, j < i → xs[j]? = some x → wholeB x 0 ((xs.length : Nat) - 1) = true)
        ⟨none, rfl, rfl, fun j x hj => absurd hj (Nat.not_lt_zero j)⟩ (fun i σ H' _ ⟨_, _, e, _⟩ => by rw [e]; exact SqL.of h1) ?_ ?_⟩
      · rintro i x σ H' hx ⟨v2, rfl, rfl, hb⟩
        have hxm := List.mem_of_getElem? hx
        obtain ⟨sx, isx⟩ := kn1 x hxm
        obtain ⟨t, ht, kk1, kk2, _⟩ := isx.ty (K := K)
        refine ⟨_, rfl, _, _, _, _, _, rfl, .ty "int", ht, kit_ty kk1, _, rfl, ?_⟩
        by_cases ei : (sx.int || sx.bl) = true
        case neg =>
          have ei : (sx.int || sx.bl) = false := by simpa using ei
          rw [ei]
          refine iteT (iteT (say "tie" (dueS_tie c12 hxm ?_)))
          cases sx with
          | sc u =>
            obtain ⟨rfl, _⟩ := isx
            cases x <;> first | rfl | cases ei
          | dk => obtain ⟨a, _, rfl, _⟩ := isx; rfl
          | lst => obtain ⟨a, rfl, _⟩ := isx; rfl
          | tup => obtain ⟨a, rfl, _⟩ := isx; rfl
        rw [ei]
        refine iteF ⟨_, rfl, _, _, _, _, _, rfl, .ty "bool", ht, kit_ty kk2, _, rfl, ?_⟩
        cases eb : sx.bl with
        | true =>
          refine iteT (iteT (say "tie" (dueS_tie c12 hxm ?_)))
          cases sx with
          | sc u =>
            obtain ⟨rfl, _⟩ := isx
            cases x <;> first | rfl | cases eb
          | _ => cases eb
        | false =>
          obtain ⟨n, rfl⟩ : ∃ n, x = .int n := by
            rw [eb, Bool.or_false] at ei
            cases sx with
            | sc u =>
              obtain ⟨rfl, _⟩ := isx
              cases x <;> first | exact ⟨_, rfl⟩ | cases ei
            | _ => cases ei
          refine iteF ⟨_, rfl, _, _, rfl, rfl, _, rfl, ?_⟩
          refine ifD (fun c3 => iteT (say "tie" (dueS_tie c12 hxm ?_))) fun c3 => ?_
          · exact whole_lo (by omega)
          refine ⟨_, rfl, _, rfl, p, xs, rfl, .inl (SqL.of h1), _, _, rfl, rfl, _, rfl, ?_⟩
          refine ifD (fun c4 => say "tie" (dueS_tie c12 hxm ?_)) fun c4 => ?_
          · exact whole_hi (by omega)
          refine ⟨_, rfl, rfl, fun j y hj hy => ?_⟩
          rcases Nat.lt_or_ge j i with hji | hji
          · exact hb j y hji hy
          · obtain rfl : j = i := by omega
            rw [hx] at hy
            rw [← Option.some.inj hy]
            exact whole_of (by omega) (by omega)
      · rintro σ H' ⟨v2, rfl, rfl, hb⟩
        have hall : ∀ x ∈ xs, wholeB x 0 ((xs.length : Nat) - 1) = true := fun x hx => by
          obtain ⟨j, hj⟩ := List.getElem?_of_mem hx
          exact hb j x (List.getElem?_eq_some_iff.mp hj).1 hj
        obtain ⟨ns, hns, hr2⟩ := all_ints hall
        have hln : xs.length = ns.length := by rw [hns, List.length_map]
        refine ⟨_, rfl, p, xs, rfl, .inl (SqL.of h1), _, rfl, by omega, by omega, for_range (lo := 0) (n := xs.length) (fun i σ H2 => ∃ v2 v3 : Option V, σ = [some (.ref p), v2, v3] ∧ H2 = H' ∧ ∀ j, j < i → backB xs j = true)
          ⟨_, none, rfl, rfl, fun j hj => absurd hj (Nat.not_lt_zero j)⟩ ?_ ?_⟩
        · rintro i σ H2 hi ⟨v2, v3, rfl, rfl, hb2⟩
          have hi' : i < ns.length := by omega
          have hbi : ns[i]? = some ns[i] := List.getElem?_eq_getElem hi'
          have hmem := hr2 _ (List.getElem_mem hi')
          generalize ns[i] = b at hbi hmem
          have hbl : b.toNat < ns.length := by omega
          have hci : ns[b.toNat]? = some ns[b.toNat] := List.getElem?_eq_getElem hbl
          generalize ns[b.toNat] = c at hci
          have hbk := backB_iff hbi
          rw [← hns, hci] at hbk
          refine ⟨_, rfl, _, rfl, _, rfl, _, _, _, _, rfl, rfl, SqL.of h1, at_of (j := i) (v := .int b) (by omega) (by rw [hns]; exact ints_at hbi), _, _, _, _, rfl, rfl, SqL.of h1, at_of (j := b.toNat) (v := .int c) (by omega) (by rw [hns]; exact ints_at hci), _, rfl, rfl, _, rfl, ?_⟩
          by_cases c3 : c = (i : Int)
          · refine if_fa (by simp [c3]) ⟨_, _, rfl, rfl, fun j hj => ?_⟩
            rcases Nat.lt_or_ge j i with hji | hji
            · exact hb2 j hji
            · obtain rfl : j = i := by omega
              rw [hbk, c3]
              exact decide_eq_true rfl
          · refine if_tr (by simp [c3]) (say "back" (dueS_back c12 hall hi ?_))
            rw [hbk]
            exact decide_eq_false fun z => c3 (Option.some.inj z)
        · rintro σ H2 ⟨v2, v3, rfl, rfl, hb2⟩
          have z := k _ S1
          have e2 : due (.lst xs) = none := dueS_none c12 hall fun k hk => hb2 k hk
          rw [e2] at z
          exact z
    | tup xs =>
      obtain ⟨p, rfl, hp⟩ := hv
      refine ⟨_, (pss_cons 
  (ps_if (pt_not (pt_val (pe_callB call_isiT (by rfl) nis (by decide +kernel) (pa_cons (pv 0) (pa_cons (pe_tup (pa_cons (pe_bltn (by rfl) nli (by decide +kernel) (v := .ty "list") rfl) (pa_cons (pe_bltn (by rfl) nt (by decide +kernel) (v := .ty "tuple") rfl) pa_nil))) pa_nil))))) (pss_one 
    (ps_ret pe_str)) pss_nil) (pss_cons 
  (ps_if (PW.pt (pw_or (pt_cmpR op_lt (pe_callB call_len_seq (by rfl) nl PySem.boot_len (pa_cons (pv 0) pa_nil)) pe_int (nomark _)) (pw_or1 (pt_cmpR op_gt (pe_callB call_len_seq (by rfl) nl PySem.boot_len (pa_cons (pv 0) pa_nil)) pe_int (nomark _))))) (pss_one 
    (ps_ret pe_str)) pss_nil) (pss_cons 
  (ps_for PassesOwn.never rfl (pi_tup (pv 0)) (pg_name (i := 1) sc_Ldue.nd rfl (Or.inl rfl)) (pss_one 
    (ps_if (PW.pt (pw_or (pt_not (pt_val (pe_callB call_isi (by rfl) nis (by decide +kernel) (pa_cons (pv 1) (pa_cons (pe_bltn (by rfl) ni (by decide +kernel) (v := .ty "int") rfl) pa_nil))))) (pw_or (pt_val (pe_callB call_isi (by rfl) nis (by decide +kernel) (pa_cons (pv 1) (pa_cons (pe_bltn (by rfl) nb (by decide +kernel) (v := .ty "bool") rfl) pa_nil)))) (pw_or (pt_cmpR op_lt (pv 1) pe_int (nomark _)) (pw_or1 (pt_cmpR op_ge (pv 1) (pe_callB call_len_seq (by rfl) nl PySem.boot_len (pa_cons (pv 0) pa_nil)) (nomark _))))))) (pss_one 
      (ps_ret pe_str)) pss_nil))) (pss_cons 
  (ps_for PassesOwn.never rfl (pi_range1 (by rfl) nr (pa_cons (pe_callB call_len_seq (by rfl) nl PySem.boot_len (pa_cons (pv 0) pa_nil)) pa_nil)) (pg_name (i := 2) sc_Ldue.nd rfl (Or.inl rfl)) (pss_one 
    (ps_if (pt_cmpR op_ne (pe_ix ix_tup (pv 0) (pe_ix ix_tup (pv 0) (pv 2) (fun _ _ => rfl)) (fun _ _ => rfl)) (pv 2) (nomark _)) (pss_one 
      (ps_ret pe_str)) pss_nil))) (pss_one 
  (ps_ret pe_non)))))), ?_⟩
      refine ⟨_, rfl, (by show 2 ≤ sizeLine; decide), fun p2 hp2 => ?_⟩
      obtain ⟨t2, ht2, kk⟩ := is_new (K := K) (s := .tup xs) ⟨p, rfl, hp⟩ hp2
      refine ⟨_, _, _, _, _, _, rfl, upd_same, .cons (.ty "list") (.cons (.ty "tuple") .nil), ht2, kk, _, rfl, iteF ?_⟩
      have S1 : Same H (upd H p2 (.tup [.ty "list", .ty "tuple"])) := new_same hp2
      generalize upd H p2 (.tup [.ty "list", .ty "tuple"]) = H1 at S1
      have h1 := S1 _ _ hp
      have kn1 : Known H1 xs := kn.keep S1
      have say : ∀ w, dueS xs = some w → Q (.str w) H1 := fun w e => by
        have z := k _ S1
        have e2 : due (.tup xs) = some w := e
        rw [e2] at z
        exact z
      refine ⟨_, rfl, p, xs, rfl, .inr (SqT.of h1), _, _, rfl, rfl, _, rfl, ?_⟩
      refine ifD (fun c1 => iteT (say "count" (dueS_count (by omega)))) fun c1 => ?_
      refine ⟨_, rfl, p, xs, rfl, .inr (SqT.of h1), _, _, rfl, rfl, _, rfl, ?_⟩
      refine ifD (fun c2 => say "count" (dueS_count (by omega))) fun c2 => ?_
      have c12 : 2 ≤ xs.length ∧ xs.length ≤ 4 := by omega
      refine ⟨_, rfl, p, rfl, ⟨_, SqT.of h1⟩, for_tup (K := K) (a := p) (xs := xs) (fun i σ H' => ∃ v2 : Option V, σ = [some (.ref p), v2, none] ∧ H' = H1 ∧ ∀ j x, j < i → xs[j]? = some x → wholeB x 0 ((xs.length : Nat) - 1) = true)
        ⟨none, rfl, rfl, fun j x hj => absurd hj (Nat.not_lt_zero j)⟩ (fun i σ H' _ ⟨_, _, e, _⟩ => by rw [e]; exact SqT.of h1) ?_ ?_⟩
      · rintro i x σ H' hx ⟨v2, rfl, rfl, hb⟩
        have hxm := List.mem_of_getElem? hx
        obtain ⟨sx, isx⟩ := kn1 x hxm
        obtain ⟨t, ht, kk1, kk2, _⟩ := isx.ty (K := K)
        refine ⟨_, rfl, _, _, _, _, _, rfl, .ty "int", ht, kit_ty kk1, _, rfl, ?_⟩
        by_cases ei : (sx.int || sx.bl) = true
        case neg =>
          have ei : (sx.int || sx.bl) = false := by simpa using ei
          rw [ei]
          refine iteT (iteT (say "tie" (dueS_tie c12 hxm ?_)))
          cases sx with
          | sc u =>
            obtain ⟨rfl, _⟩ := isx
            cases x <;> first | rfl | cases ei
          | dk => obtain ⟨a, _, rfl, _⟩ := isx; rfl
          | lst => obtain ⟨a, rfl, _⟩ := isx; rfl
          | tup => obtain ⟨a, rfl, _⟩ := isx; rfl
        rw [ei]
        refine iteF ⟨_, rfl, _, _, _, _, _, rfl, .ty "bool", ht, kit_ty kk2, _, rfl, ?_⟩
        cases eb : sx.bl with
        | true =>
          refine iteT (iteT (say "tie" (dueS_tie c12 hxm ?_)))
          cases sx with
          | sc u =>
            obtain ⟨rfl, _⟩ := isx
            cases x <;> first | rfl | cases eb
          | _ => cases eb
        | false =>
          obtain ⟨n, rfl⟩ : ∃ n, x = .int n := by
            rw [eb, Bool.or_false] at ei
            cases sx with
            | sc u =>
              obtain ⟨rfl, _⟩ := isx
              cases x <;> first | exact ⟨_, rfl⟩ | cases ei
            | _ => cases ei
          refine iteF ⟨_, rfl, _, _, rfl, rfl, _, rfl, ?_⟩
          refine ifD (fun c3 => iteT (say "tie" (dueS_tie c12 hxm ?_))) fun c3 => ?_
          · exact whole_lo (by omega)
          refine ⟨_, rfl, _, rfl, p, xs, rfl, .inr (SqT.of h1), _, _, rfl, rfl, _, rfl, ?_⟩
          refine ifD (fun c4 => say "tie" (dueS_tie c12 hxm ?_)) fun c4 => ?_
          · exact whole_hi (by omega)
          refine ⟨_, rfl, rfl, fun j y hj hy => ?_⟩
          rcases Nat.lt_or_ge j i with hji | hji
          · exact hb j y hji hy
          · obtain rfl : j = i := by omega
            rw [hx] at hy
            rw [← Option.some.inj hy]
            exact whole_of (by omega) (by omega)
      · rintro σ H' ⟨v2, rfl, rfl, hb⟩
        have hall : ∀ x ∈ xs, wholeB x 0 ((xs.length : Nat) - 1) = true := fun x hx => by
          obtain ⟨j, hj⟩ := List.getElem?_of_mem hx
          exact hb j x (List.getElem?_eq_some_iff.mp hj).1 hj
        obtain ⟨ns, hns, hr2⟩ := all_ints hall
        have hln : xs.length = ns.length := by rw [hns, List.length_map]
        refine ⟨_, rfl, p, xs, rfl, .inr (SqT.of h1), _, rfl, by omega, by omega, for_range (lo := 0) (n := xs.length) (fun i σ H2 => ∃ v2 v3 : Option V, σ = [some (.ref p), v2, v3] ∧ H2 = H' ∧ ∀ j, j < i → backB xs j = true)
          ⟨_, none, rfl, rfl, fun j hj => absurd hj (Nat.not_lt_zero j)⟩ ?_ ?_⟩
        · rintro i σ H2 hi ⟨v2, v3, rfl, rfl, hb2⟩
          have hi' : i < ns.length := by omega
          have hbi : ns[i]? = some ns[i] := List.getElem?_eq_getElem hi'
          have hmem := hr2 _ (List.getElem_mem hi')
          generalize ns[i] = b at hbi hmem
          have hbl : b.toNat < ns.length := by omega
          have hci : ns[b.toNat]? = some ns[b.toNat] := List.getElem?_eq_getElem hbl
          generalize ns[b.toNat] = c at hci
          have hbk := backB_iff hbi
          rw [← hns, hci] at hbk
          refine ⟨_, rfl, _, rfl, _, rfl, _, _, _, _, rfl, rfl, SqT.of h1, at_of (j := i) (v := .int b) (by omega) (by rw [hns]; exact ints_at hbi), _, _, _, _, rfl, rfl, SqT.of h1, at_of (j := b.toNat) (v := .int c) (by omega) (by rw [hns]; exact ints_at hci), _, rfl, rfl, _, rfl, ?_⟩
          by_cases c3 : c = (i : Int)
          · refine if_fa (by simp [c3]) ⟨_, _, rfl, rfl, fun j hj => ?_⟩
            rcases Nat.lt_or_ge j i with hji | hji
            · exact hb2 j hji
            · obtain rfl : j = i := by omega
              rw [hbk, c3]
              exact decide_eq_true rfl
          · refine if_tr (by simp [c3]) (say "back" (dueS_back c12 hall hi ?_))
            rw [hbk]
            exact decide_eq_false fun z => c3 (Option.some.inj z)
        · rintro σ H2 ⟨v2, v3, rfl, rfl, hb2⟩
          have z := k _ S1
          have e2 : due (.tup xs) = none := dueS_none c12 hall fun k hk => hb2 k hk
          rw [e2] at z
          exact z
end
end J

set_option Elab.async false
set_option linter.all false
set_option maxRecDepth 100000
set_option maxHeartbeats 4000000
namespace J
open PySem PySem.Spec PyProof.Rows L2
/-! ### calls that may raise, within a try -/
section
variable {X : Cx} {CX : CXT} {k : Nat} {f C : Addr} {fd : FuncData} {ps : List Str} {sp : Sp} {E : L2.St → XK} {x m : Str} {p pos apos : Pos} {e o : Expr} {es : List Expr} {ta : TE} {t : TA}
def tMethS (m : Str) (sp : Sp) (C : Addr) (E : L2.St → XK) (ta : TE) (t : TA) : TE := fun σ H Q => ta σ H fun x H1 => ∃ a dx fs, x = .ref a ∧ H1 a = some (.ins C dx fs) ∧ fs.lookup m = none ∧ t σ H1 fun vs H2 => sp (.ref a :: vs) H2 Q (E σ)
theorem pmetS {pl : Sem Bool} (he : PE X o ta) (c : Cls X.K C) (hm : Meth X.K C m f) (F : FnOk X.prog X.w X.K X.mg X.base CX k f fd ps sp) (hr : Room k X.A) (hb : Binds X.K fd ps [])
    (hx : ∀ σ, PassesAt CX X σ (E σ)) (ha : PA X (e :: es) t)
    (hst : starEach (e :: es) X.env = (false, eval e X.env) :: starEach es X.env := by rfl)
    (hpl : (backTo pos (starEach es X.env)).any (·.1) = false := by rfl)
    (ht : eval (.Call (.Attribute o m apos) (e :: es) [] pos) X.env = (do let ov ← eval o X.env; standAt apos.atName; let (f, first) ← holding [ov] (getMethod ov m pl); callWith pos f first (backTo pos (starEach (e :: es) X.env)) (backToKw pos (keywordEach [] X.env))) := by rfl) :
    PE X (.Call (.Attribute o m apos) (e :: es) [] pos) (tMethS m sp C E ta t) := by
  constructor
  intro pins s σ H Q I h
  refine PySem.W.methodCall_KW (pl := pl) (thn (he.run pins s σ H _ I h) ?_) ht
  rintro u s1 ⟨x, H1, I1, rx, a, dx, fs, ex, ea, l, q⟩
  subst ex
  obtain rfl : u = Value.ref a := rx
  apply getmeth_ok I1 ea c hm l
  refine PySem.W.callWith_K (first := [.ref a]) (h₀ := X.base) I.ok.mod.kin hm.kp (thn (ha.run pos pins s1 σ H1 _ I1 q) ?_) hst hpl
  rintro us s2 ⟨vs, H2, I2, r, q2⟩
  refine ⟨I2.kIn, ?_⟩
  exact run_fnS (us := .ref a :: us) (vs := .ref a :: vs) F hr hb (hx σ) I2 (.cons rfl r) q2
def tMakeS (C : Addr) (sp : Sp) (E : L2.St → XK) (t : TA) : TE := fun σ H Q => t σ H fun vs H1 => ∀ x dx, H1 x = none → H1 dx = none → dx ≠ x → sp (.ref x :: vs) (upd (upd H1 dx (.own x)) x (.ins C dx [])) (fun v H2 => v = .non ∧ Q (.ref x) H2) (E σ)
theorem pmakS (M : Mk X.K C f) (F : FnOk X.prog X.w X.K X.mg X.base CX k f fd ps sp) (hr : Room (k + 1) X.A) (hg : Gl X x) (hm : X.mg x = some (.ref C)) (hb : Binds X.K fd ps []) (hx : ∀ σ, PassesAt CX X σ (E σ))
    (ha : PA X (e :: es) t) (hdb : (x == ("__debug__" : Str)) = false := by decide)
    (he : starEach (e :: es) X.env = (false, eval e X.env) :: starEach es X.env := by rfl)
    (hpl : (backTo pos (starEach es X.env)).any (·.1) = false := by rfl) :
    PE X (.Call (.Name x p) (e :: es) [] pos) (tMakeS C sp E t) := by
  constructor
  intro pins s σ H Q I h
  refine wpAny_Call_Name_kw (ld_glob I hg hm ?_ hdb)
  refine PySem.W.callWith_K (h₀ := X.base) I.ok.mod.kin M.kp (thn (ha.run pos pins s σ H _ I h) ?_) he hpl
  rintro us s1 ⟨vs, H1, I1, r, q⟩
  refine ⟨I1.kIn, ?_⟩
  have hq := q (s1.heap.objs.size + 1) s1.heap.objs.size (I1.hok.fresh (Nat.le_succ _)) (I1.hok.fresh (Nat.le_refl _)) (Nat.ne_of_lt (Nat.lt_succ_self _))
  have I2 := Inv.made (C := C) I1
  have r2 : Vals (V.ref (s1.heap.objs.size + 1) :: vs) (Value.ref (s1.heap.objs.size + 1) :: us) := .cons rfl r
  have hl : (Value.ref (s1.heap.objs.size + 1) :: us).length = ps.length := by
    rw [← r2.length]
    exact F.len _ _ _ _ hq
  have bd := hb _ (Value.ref (s1.heap.objs.size + 1) :: us) I2.kIn (by rw [List.append_nil]; exact hl)
  rw [List.append_nil] at bd
  have run := F.run _ X.stack _ _ ⟨Value.ref (s1.heap.objs.size + 1) :: us, []⟩ (Value.ref (s1.heap.objs.size + 1) :: us) _ _ (E σ) (hr.make C us []) (I2.env0.make C us []) bd r2 hq
  refine wpAny_call (make_map (f := f) I1.kIn M.makes M.init (beq_iff_eq.mp M.fn) (codeAny_mono run ?_))
  intro r s' hq'
  rcases r with er | fl
  · exact hx σ pins _ _ er s' I2 hq'
  · cases fl with
    | ret u =>
      obtain ⟨v, H', I3, rv, ev, q3⟩ := I2.after hq'
      subst ev
      exact ⟨rv, V.ref (s1.heap.objs.size + 1), H', I3, rfl, q3⟩
    | next => exact hq'.elim
    | brk => exact hq'.elim
    | cont => exact hq'.elim
end
/-! ### == by the text's own __eq__ -/
def rEqOwn (C : Addr) (sp : Sp) (E : XK) : R2 := fun x y H Q => ∃ a b dx fs, x = .ref a ∧ y = .ref b ∧ H a = some (.ins C dx fs) ∧ ((∃ dy gs, H b = some (.ins C dy gs)) ∨ ∃ ys, H b = some (.tup ys)) ∧ sp [x, y] H (fun v H' => (∃ c, v = .bl c) ∧ Q v H') E
theorem op_eqOwn {X : Cx} {CX : CXT} {n : Nat} {C f : Addr} {fd : FuncData} {ps : List Str} {sp : Sp} {E : XK} (F : FnOk X.prog X.w X.K X.mg X.base CX n f fd ps sp)
    (hs : PySem.W.findIn X.K (.ref C) "__eq__" = some (some (.ref f))) (hf : PySem.W.isFn X.K (.ref f) = true) (hb : Binds X.K fd ps []) (hx : Passes CX X E) (hr : Room n X.A)
    (hn : PySem.W.notFirst X.K C (.type "tuple") = true) : OpR X (compareOp .Eq) (rEqOwn C sp E) := by
  intro pins s σ H x y v u Q I rx ry ⟨a, b, dx, fs, ex, ey, ha, hy, q⟩
  subst ex
  subst ey
  obtain rfl : v = Value.ref a := rx
  obtain rfl : u = Value.ref b := ry
  show wpAny (model X.prog X.w) X.A (richCompare .Eq (.ref a) (.ref b)) (EP X pins σ Q) X.xe s
  obtain ⟨mA, J, _⟩ := ins_get I.hok ha
  obtain ⟨od, J, _⟩ := J.look
  obtain ⟨m, hF⟩ := I.fr
  have r2 : Vals [V.ref a, V.ref b] [Value.ref a, Value.ref b] := .cons rfl (.cons rfl .nil)
  have fin : wpAny (model X.prog X.w) X.A (call (.ref f) [.ref a, .ref b]) (PySem.W.CmpBack (EP X pins σ Q)) X.xe s := by
    refine wpAny_mono (run_fn (dvs := []) (ds := []) (us := [.ref a, .ref b]) (vs := [.ref a, .ref b]) F hr hb .nil hx I r2 q) ?_ fun _ _ z => z
    rintro w s' ⟨z, H', I', rz, ⟨c, rfl⟩, qz⟩
    obtain rfl : w = Value.bool c := rz
    exact ⟨V.bl c, H', I', rfl, qz⟩
  rcases hy with ⟨dy, gs, hb'⟩ | ⟨ys, hb'⟩
  · obtain ⟨mB, J', _⟩ := ins_get I.hok hb'
    obtain ⟨od', J', _⟩ := J'.look
    exact PySem.W.cmp_K (op := .Eq) (tb := .ref C) hr.units0 hF I.ok.mod.kin J J'.type (by simp [PySem.W.notFirst]) hs hf fin
  · obtain ⟨its, rv, ⟨o, h1, h2, _⟩, _⟩ := I.tuple (SqT.of hb')
    have LT : PySem.W.Looks (model X.prog X.w) s.heap (typeOf (.ref b)) (.type "tuple") := fun A Q E s k q => wpAny_typeOf_ref (k _ _ h1) (by rw [h2]; exact q)
    exact PySem.W.cmp_K (op := .Eq) (tb := .type "tuple") hr.units0 hF I.ok.mod.kin J LT hn hs hf fin
/-! ### == of data -/
theorem eqv_ints : ∀ ns ms : List Int, PyData.eqvAll (ns.map PyData.int) (ms.map PyData.int) = decide (ns = ms)
  | [], [] => by simp [PyData.eqvAll]
  | [], m :: ms => by simp [PyData.eqvAll]
  | n :: ns, [] => by simp [PyData.eqvAll]
  | n :: ns, m :: ms => by
    have ih := eqv_ints ns ms
    simp only [List.map_cons, PyData.eqvAll, PyData.eqv, ih]
    by_cases h : n = m
    · by_cases h2 : ns = ms
      · simp [h, h2]
      · simp [h, h2]
    · simp [h]
theorem dp_ints {K : PySem.W.Frag} {H : Hp} : ∀ ns : List Int, DpAll K H (ns.map V.int) (ns.map PyData.int)
  | [] => .nil
  | n :: ns => .cons (.int n) (dp_ints ns)
theorem ints_lay : ∀ ns : List Int, PyData.canLayAll0 (ns.map PyData.int) = true
  | [] => by simp [PyData.canLayAll0]
  | n :: ns => by
    have ih := ints_lay ns
    simp only [List.map_cons, PyData.canLayAll0, ih, PyData.canLay0, Bool.and_self]
theorem ints_depth : ∀ ns : List Int, PyData.depthAll (ns.map PyData.int) ≤ 1
  | [] => by simp [PyData.depthAll]
  | n :: ns => by
    have ih := ints_depth ns
    simp only [List.map_cons, PyData.depthAll, PyData.depth]
    omega
theorem shaped_li (ns : List Int) : SeqAt.shaped (.list (ns.map PyData.int)) = true := by
  have h := ints_depth ns
  show (PyData.canLay0 (.list (ns.map PyData.int)) && decide (PyData.depth (.list (ns.map PyData.int)) ≤ 64)) = true
  rw [Bool.and_eq_true]
  refine ⟨by simp only [PyData.canLay0]; exact ints_lay ns, decide_eq_true ?_⟩
  simp only [PyData.depth]
  omega
theorem shaped_ti (ns : List Int) : SeqAt.shaped (.tuple (ns.map PyData.int)) = true := by
  have h := ints_depth ns
  show (PyData.canLay0 (.tuple (ns.map PyData.int)) && decide (PyData.depth (.tuple (ns.map PyData.int)) ≤ 64)) = true
  rw [Bool.and_eq_true]
  refine ⟨by simp only [PyData.canLay0]; exact ints_lay ns, decide_eq_true ?_⟩
  simp only [PyData.depth]
  omega
theorem eqv_li (ns ms : List Int) : PyData.eqv (.list (ns.map PyData.int)) (.list (ms.map PyData.int)) = decide (ns = ms) := by
  simp only [PyData.eqv]
  exact eqv_ints ns ms
theorem eqv_ti (ns ms : List Int) : PyData.eqv (.tuple (ns.map PyData.int)) (.tuple (ms.map PyData.int)) = decide (ns = ms) := by
  simp only [PyData.eqv]
  exact eqv_ints ns ms
end J

set_option Elab.async false
set_option linter.all false
set_option maxRecDepth 100000
set_option maxHeartbeats 4000000
namespace J
open PySem PySem.Spec PyProof.Rows L2
structure TiX (K : PySem.W.Frag) (mg : Str → Option Value) (C : Addr) : Prop extends TiC K C where
  isc : C8.InsC K C
  nt : PySem.W.kitOne K (.type "tuple") (.ref C) = some false
  nf : PySem.W.notFirst K C (.type "tuple") = true
  mT : mg "Ties" = some (.ref C)
abbrev s_Ties_eq : Stmt := inClass (top 10) 1
theorem sc_Ties_eq : FnScope ["self", "other"] ["self", "other"] (defScope s_Ties_eq) := ⟨rfl, rfl, rfl, by decide +kernel, rfl, by decide +kernel, by decide +kernel⟩
def spTEq (C : Addr) : Sp := fun vs H Q _ => ∃ (a b : Addr) (ns : List Int), vs = [.ref a, .ref b] ∧ TiesAt C H a ns ∧ ((∃ ms, TiesAt C H b ms ∧ Q (.bl (decide (ns = ms))) H) ∨ ((∃ ys, H b = some (.tup ys)) ∧ Q (.bl false) H))
abbrev s_Lmade : Stmt := top 20
theorem sc_Lmade : FnScope ["_law_thing_here", "_law_ties", "e"] ["_law_thing_here"] (defScope s_Lmade) := ⟨rfl, rfl, rfl, by decide +kernel, rfl, by decide +kernel, by decide +kernel⟩
def spMade (C : Addr) : Sp := fun vs H Q _ => ∃ (v : V) (s : Sh), vs = [v] ∧ Is H v s ∧ Known H (items s) ∧ (∀ w, due s = some w → ∀ p H', Same H H' → H p = none → H' p = some (.tup [.non, .str w]) → Q (.ref p) H') ∧
  (∀ ns, due s = none → items s = ns.map V.int → ∀ p x H', Same H H' → H p = none → H x = none → TiesAt C H' x ns → H' p = some (.tup [.ref x, .non]) → Q (.ref p) H')
abbrev s_Lno_tie : Stmt := top 21
theorem sc_Lno_tie : FnScope ["_law_ties", "_law_thing_here", "_law_way", "_law_told", "e"] ["_law_ties", "_law_thing_here", "_law_way"] (defScope s_Lno_tie) := ⟨rfl, rfl, rfl, by decide +kernel, rfl, by decide +kernel, by decide +kernel⟩
def spNoTie (C : Addr) : Sp := fun vs H Q _ => ∃ (x : Addr) (ns : List Int) (v : V) (way : Int), vs = [.ref x, v, .int way] ∧ TiesAt C H x ns ∧ isSc v = true ∧ tieB ns v = false ∧ ∀ H', Same H H' → Q (.bl true) H'
section
variable {P : Program} {w : World} {K : PySem.W.Frag} {mg : Str → Option Value} {base : Heap}
theorem ok_Ties_eq {f C : Addr} {fd : FuncData} (F : Fun K "__eq__" "Ties.__eq__" s_Ties_eq f fd) (T : TiX K mg C) (nis : mg "isinstance" = none) : FnOk P w K mg base CX0 1 f fd ["self", "other"] (spTEq C) := by
  refine F.ok sc_Ties_eq (fun vs H Q E h => ?_) (fun cdv A outer s H vs Q E hr h => ?_)
  · obtain ⟨a, b, ns, rfl, _⟩ := h
    rfl
  · obtain ⟨a, b, ns, rfl, ⟨dx, t, ha, ht⟩, h⟩ := h
    refine ⟨_, (pss_one 
  (ps_ret (pe_and (pe_callB call_isi (by rfl) nis (by decide +kernel) (pa_cons (pv 1) (pa_cons (pe_glob (v := .ref C) rfl T.mT rfl) pa_nil))) (pe_one (pe_cmpR (op_eqD hr.units) (pe_fld (pv 0) rfl) (pe_fld (pv 1) rfl) (nomark _)))))), ?_⟩
    rcases h with ⟨ms, ⟨dy, u, hb, hu⟩, k⟩ | ⟨⟨ys, hb⟩, k⟩
    · refine ⟨_, rfl, _, _, _, _, true, rfl, .own C, .base (.ins hb T.cl T.isc.ha T.isc.hn T.isc.htk T.isc.hm), T.isc.me, _, rfl, if_tr rfl ?_⟩
      refine ⟨_, rfl, a, C, dx, _, _, rfl, ha, T.cl, T.nB, tf_backs _ _, _, rfl, b, C, dy, _, _, rfl, hb, T.cl, T.nB, tf_backs _ _, _, _, .tup (SqT.of ht) (dp_ints ns), .tup (SqT.of hu) (dp_ints ms), shaped_ti ns, shaped_ti ms, ?_⟩
      rw [eqv_ti]
      exact k
    · exact ⟨_, rfl, _, _, _, _, false, rfl, .own C, .base (.tup hb), T.nt, _, rfl, if_fa rfl k⟩
theorem ok_Lmade {f C CB fI fB : Addr} {fd fdI fdB : FuncData} (F : Fun K "_law_made" "_law_made" s_Lmade f fd) (T : TiX K mg C) (M : Mk K C fI) (FI : FnOk P w K mg base (L2.CX P w) 4 fI fdI ["self", "backs"] (spTies C CB)) (bI : Binds K fdI ["self", "backs"] [])
    (GB : Ex P w K mg base "BadTies" "what" CB fB fdB ["self", "what"]) : FnOk P w K mg base CX0 6 f fd ["_law_thing_here"] (spMade C) := by
  refine F.ok sc_Lmade (fun vs H Q E h => ?_) (fun cdv A outer s H vs Q E hr h => ?_)
  · obtain ⟨v, s, rfl, _⟩ := h
    rfl
  · obtain ⟨v, sh, rfl, hv, kn, k1, k2⟩ := h
    refine ⟨_, (pss_cons 
  (ps_try_as (i := 2) (Wout := fun _ _ _ _ => False) rfl rfl sc_Lmade.nd rfl rfl ⟨rfl, by decide, Or.inl GB.m⟩ takes0 (fun W pn xe tk _ => (pss_one 
    (ps_set (i := 1) sc_Lmade.nd rfl (Or.inl rfl) (by exact (pmakS M FI hr rfl T.mT bI (fun σ => passAt tk σ) (by exact (pa_cons (pv 0) pa_nil))))))) (fun a oe cls d pn hz hf => (pss_one 
    (ps_ret (pe_tup (pa_cons pe_non (pa_cons (pe_xf GB.xf GB.no hz hf (pv 2)) pa_nil))))))) (pss_one 
  (ps_ret (pe_tup (pa_cons (pv 1) (pa_cons pe_non pa_nil)))))), ?_⟩
    refine ⟨_, rfl, fun x dx nx ndx nex => ?_⟩
    have S0 : Same H (upd (upd H dx (.own x)) x (.ins C dx [])) := fun b o e => by
      rw [upd_ne (ne_of_none e nx), upd_ne (ne_of_none e ndx)]
      exact e
    refine ⟨x, dx, v, sh, rfl, upd_same, hv.keep S0, kn.keep S0, fun u hu d H' nd S e => ?_, fun ns hd hns H' B T' => ?_⟩
    · refine ⟨true, GB.te, fun _ a ha => ?_, fun q => nomatch q⟩
      refine ⟨_, rfl, rfl, rfl, d, _, .str u, rfl, e, by simp [List.lookup], (by show 2 ≤ sizeLine; decide), fun p hp => ?_⟩
      refine k1 u hu p _ ((S0.trans S).trans (new_same hp)) ((S0.trans S).free hp) upd_same
    · have S1 : Same H H' := fun b o e => B b o (ne_of_none e nx) (S0 b o e)
      refine ⟨rfl, _, rfl, (by show 2 ≤ sizeLine; decide), fun p hp => ?_⟩
      exact k2 ns hd hns p x _ (S1.trans (new_same hp)) (S1.free hp) nx (T'.keep (new_same hp)) upd_same
theorem ok_Lno_tie {f C CN fI fB fO : Addr} {fd fdI fdB fdO : FuncData} (F : Fun K "_law_no_tie" "_law_no_tie" s_Lno_tie f fd) (T : TiC K C) (nis : mg "isinstance" = none) (nb : mg "bool" = none)
    (GB : Mt P w K mg base (L2.CX P w) 3 C "back" fB fdB ["self", "tie"] (spBack C CN)) (GO : Mt P w K mg base (L2.CX P w) 4 C "one_way" fO fdO ["self", "tie"] (spOneWay C CN)) (GN : Ex P w K mg base "NoTie" "tie" CN fI fdI ["self", "tie"]) :
    FnOk P w K mg base CX0 5 f fd ["_law_ties", "_law_thing_here", "_law_way"] (spNoTie C) := by
  refine F.ok sc_Lno_tie (fun vs H Q E h => ?_) (fun cdv A outer s H vs Q E hr h => ?_)
  · obtain ⟨x, ns, v, way, rfl, _⟩ := h
    rfl
  · obtain ⟨x, ns, v, way, rfl, hT, sv, tb, k⟩ := h
    obtain ⟨dx, t, hx, ht⟩ := id hT
    have hr3 : Room 3 _ := hr.mono (by decide)
    refine ⟨_, (pss_cons 
  (ps_try_as (i := 4) (Wout := fun _ _ _ _ => False) rfl rfl sc_Lno_tie.nd rfl rfl ⟨rfl, by decide, Or.inl GN.m⟩ takes0 (fun W pn xe tk _ => (pss_one 
    (ps_set (i := 3) sc_Lno_tie.nd rfl (Or.inl rfl) (by exact (pe_ifExp (pt_cmpR op_eq (pv 2) pe_int (nomark _)) (pmetS (pv 0) T.cl GB.M GB.F hr3 GB.b (fun σ => passAt tk σ) (by exact (pa_cons (pv 1) pa_nil))) (pmetS (pv 0) T.cl GO.M GO.F hr GO.b (fun σ => passAt tk σ) (by exact (pa_cons (pv 1) pa_nil)))))))) (fun a oe cls d pn hz hf => (pss_one 
    (ps_ret (pe_and (pe_cmpR op_eq (pe_xf GN.xf GN.no hz hf (pv 4)) (pv 1) (nomark _)) (pe_one (pe_cmpR op_eq (pe_callB (id := "isinstance") (r := rIsi K) call_isi (by rfl) nis (by decide +kernel) (pa_cons (pe_xf GN.xf GN.no hz hf (pv 4)) (pa_cons (pe_bltn (by rfl) nb (by decide +kernel) (v := .ty "bool") rfl) pa_nil))) (pe_callB (id := "isinstance") (r := rIsi K) call_isi (by rfl) nis (by decide +kernel) (pa_cons (pv 1) (pa_cons (pe_bltn (by rfl) nb (by decide +kernel) (v := .ty "bool") rfl) pa_nil))) (nomark _)))))))) (pss_one 
  (ps_ret (pe_cmpR op_isN (pv 3) pe_non (nomark _))))), ?_⟩
    have no : ∀ (i : Nat) (b : Int), v = .int (i : Nat) → ns[i]? = some b → False := fun i b ev eb => by
      have hi := (List.getElem?_eq_some_iff.mp eb).1
      rw [ev] at tb
      have z : tieB ns (.int (i : Nat)) = true := whole_of (by omega) (by omega)
      rw [z] at tb
      cases tb
    have is0 : Is H v (.sc v) := ⟨rfl, sv⟩
    refine ⟨_, rfl, rfl, _, rfl, ?_⟩
    refine ifD (fun c => ?_) (fun c => ?_)
    · refine ⟨_, rfl, x, dx, _, rfl, hx, tf_no _ _ (by decide +kernel) (by decide +kernel), _, rfl, x, ns, v, .sc v, rfl, hT, is0, fun i b ev eb => (no i b ev eb).elim, fun _ d H' nd S e => ?_⟩
      refine ⟨true, GN.te, fun _ a ha => ?_, fun q => nomatch q⟩
      obtain ⟨t1, ht1, _, kb, _⟩ := (is0.keep S).ty (K := K)
      refine ⟨_, rfl, rfl, rfl, d, _, v, rfl, e, by simp [List.lookup], _, rfl, ?_⟩
      refine ⟨(by cases v <;> first | rfl | cases sv), _, rfl, if_tr (decide_eq_true rfl) ?_⟩
      refine ⟨_, rfl, rfl, rfl, d, _, v, rfl, e, by simp [List.lookup], _, _, _, _, _, rfl, .ty "bool", ht1, kit_ty kb, _, rfl, _, _, _, _, _, rfl, .ty "bool", ht1, kit_ty kb, rfl, ?_⟩
      rw [decide_eq_true rfl]
      exact k _ S
    · refine ⟨_, rfl, x, dx, _, rfl, hx, tf_no _ _ (by decide +kernel) (by decide +kernel), _, rfl, x, ns, v, .sc v, rfl, hT, is0, fun i b ev eb => (no i b ev eb).elim, fun _ d H' nd S e => ?_⟩
      refine ⟨true, GN.te, fun _ a ha => ?_, fun q => nomatch q⟩
      obtain ⟨t1, ht1, _, kb, _⟩ := (is0.keep S).ty (K := K)
      refine ⟨_, rfl, rfl, rfl, d, _, v, rfl, e, by simp [List.lookup], _, rfl, ?_⟩
      refine ⟨(by cases v <;> first | rfl | cases sv), _, rfl, if_tr (decide_eq_true rfl) ?_⟩
      refine ⟨_, rfl, rfl, rfl, d, _, v, rfl, e, by simp [List.lookup], _, _, _, _, _, rfl, .ty "bool", ht1, kit_ty kb, _, rfl, _, _, _, _, _, rfl, .ty "bool", ht1, kit_ty kb, rfl, ?_⟩
      rw [decide_eq_true rfl]
      exact k _ S
end
end J

set_option Elab.async false
set_option linter.all false
set_option maxRecDepth 100000
set_option maxHeartbeats 4000000
namespace J
open PySem PySem.Spec PyProof.Rows L2
abbrev s_Lright : Stmt := top 22
theorem sc_Lright : FnScope ["_law_ties", "_law_backs_here", "_law_tie", "_law_told", "_law_thing_here"] ["_law_ties", "_law_backs_here"] (defScope s_Lright) := ⟨rfl, rfl, rfl, by decide +kernel, rfl, by decide +kernel, by decide +kernel⟩
def spRight (C : Addr) : Sp := fun vs H Q _ => ∃ (x l : Addr) (ns : List Int), vs = [.ref x, .ref l] ∧ TiesAt C H x ns ∧ H l = some (.lst (ns.map V.int)) ∧ GoodB ns ∧ ∀ H', Same H H' → Q (.bl true) H'
def odds (n : Nat) : List V := [.int (-1), .int (n : Nat), .bl true, .non, .str "0", .bl false, .int (10 ^ (25 : Int).toNat)]
theorem odds_no {ns : List Int} (g : GoodB ns) : ∀ y ∈ odds ns.length, isSc y = true ∧ tieB ns y = false := by
  intro y hy
  have h2 := g.hi
  unfold odds at hy
  simp only [List.mem_cons, List.not_mem_nil, or_false] at hy
  rcases hy with rfl | rfl | rfl | rfl | rfl | rfl | rfl
  · exact ⟨rfl, whole_lo (by decide)⟩
  · exact ⟨rfl, whole_hi (by omega)⟩
  · exact ⟨rfl, rfl⟩
  · exact ⟨rfl, rfl⟩
  · exact ⟨rfl, rfl⟩
  · exact ⟨rfl, rfl⟩
  · refine ⟨rfl, whole_hi ?_⟩
    have e : (10 : Int) ^ (25 : Int).toNat = 10000000000000000000000000 := by decide +kernel
    rw [e]
    omega
section
variable {P : Program} {w : World} {K : PySem.W.Frag} {mg : Str → Option Value} {base : Heap}
theorem ok_Lright {f C CN fB fO fS fN : Addr} {fd fdB fdO fdS fdN : FuncData} (F : Fun K "_law_right" "_law_right" s_Lright f fd) (T : TiX K mg C) (nis : mg "isinstance" = none) (nb : mg "bool" = none) (ni : mg "int" = none) (nt : mg "tuple" = none) (nli : mg "list" = none) (nl : mg "len" = none) (nr : mg "range" = none)
    (GB : Mt P w K mg base (L2.CX P w) 3 C "back" fB fdB ["self", "tie"] (spBack C CN)) (GO : Mt P w K mg base (L2.CX P w) 4 C "one_way" fO fdO ["self", "tie"] (spOneWay C CN)) 
    (GS : Cal P w K mg base CX0 1 "_law_says" fS fdS ["_law_told", "_law_due_here"] spSays) (GN : Cal P w K mg base CX0 5 "_law_no_tie" fN fdN ["_law_ties", "_law_thing_here", "_law_way"] (spNoTie C)) :
    FnOk P w K mg base CX0 6 f fd ["_law_ties", "_law_backs_here"] (spRight C) := by
  refine F.ok sc_Lright (fun vs H Q E h => ?_) (fun cdv A outer s H vs Q E hr h => ?_)
  · obtain ⟨x, l, ns, rfl, _⟩ := h
    rfl
  · obtain ⟨x, l, ns, rfl, hT, hl, g, k⟩ := h
    obtain ⟨dx, t, hx, ht⟩ := id hT
    have hr3 : Room 3 _ := hr.mono (by decide)
    have hr4 : Room 4 _ := hr.mono (by decide)
    refine ⟨_, (pss_cons 
  (ps_if (PW.pt (pw_or (pt_not (pt_val (pe_callB call_isi (by rfl) nis (by decide +kernel) (pa_cons (pv 0) (pa_cons (pe_glob (v := .ref C) rfl T.mT rfl) pa_nil))))) (pw_or (pt_not (pt_val (pe_callB call_isi (by rfl) nis (by decide +kernel) (pa_cons (pe_fld (pv 0) rfl) (pa_cons (pe_bltn (by rfl) nt (by decide +kernel) (v := .ty "tuple") rfl) pa_nil))))) (pw_or1 (pt_cmpR (op_neD hr.units) (pe_callTy call_list_of (by rfl) nli (by decide +kernel) (pa_cons (pe_fld (pv 0) rfl) pa_nil)) (pv 1) (nomark _)))))) (pss_one 
    (ps_ret pe_bl)) pss_nil) (pss_cons 
  (ps_if (PW.pt (pw_or (pt_cmpR op_ne (pe_fld (pv 0) rfl) (pe_callB call_len_seq (by rfl) nl PySem.boot_len (pa_cons (pv 1) pa_nil)) (nomark _)) (pw_or1 (pt_val (pe_callB call_isi (by rfl) nis (by decide +kernel) (pa_cons (pe_fld (pv 0) rfl) (pa_cons (pe_bltn (by rfl) nb (by decide +kernel) (v := .ty "bool") rfl) pa_nil))))))) (pss_one 
    (ps_ret pe_bl)) pss_nil) (pss_cons 
  (ps_for PassesOwn.never rfl (pi_range1 (by rfl) nr (pa_cons (pe_callB call_len_seq (by rfl) nl PySem.boot_len (pa_cons (pv 1) pa_nil)) pa_nil)) (pg_name (i := 2) sc_Lright.nd rfl (Or.inl rfl)) (pss_cons 
    (ps_set (i := 3) sc_Lright.nd rfl (Or.inl rfl) (pe_meth (pv 0) T.cl GB.M GB.F hr3 GB.b .nil passL (pa_cons (pv 2) pa_nil))) (pss_cons 
    (ps_if (PW.pt (pw_or (pt_not (pt_val (pe_callB call_isi (by rfl) nis (by decide +kernel) (pa_cons (pv 3) (pa_cons (pe_bltn (by rfl) ni (by decide +kernel) (v := .ty "int") rfl) pa_nil))))) (pw_or (pt_val (pe_callB call_isi (by rfl) nis (by decide +kernel) (pa_cons (pv 3) (pa_cons (pe_bltn (by rfl) nb (by decide +kernel) (v := .ty "bool") rfl) pa_nil)))) (pw_or1 (pt_cmpR op_ne (pv 3) (pe_ix ix_list (pv 1) (pv 2) (fun _ _ => rfl)) (nomark _)))))) (pss_one 
      (ps_ret pe_bl)) pss_nil) (pss_one 
    (ps_if (PW.pt (pw_or (pt_not (pt_val (pcal GS hr pass0 (pa_cons (pe_meth (pv 0) T.cl GO.M GO.F hr4 GO.b .nil passL (pa_cons (pv 2) pa_nil)) (pa_cons (pe_cmpR op_ne (pe_ix ix_list (pv 1) (pv 2) (fun _ _ => rfl)) (pv 2) (nomark _)) pa_nil))))) (pw_or1 (pt_cmpR op_ne (pe_meth (pv 0) T.cl GB.M GB.F hr3 GB.b .nil passL (pa_cons (pv 3) pa_nil)) (pv 2) (nomark _))))) (pss_one 
      (ps_ret pe_bl)) pss_nil))))) (pss_cons 
  (ps_for PassesOwn.never rfl (pi_list (pe_lst (pa_cons (pe_un un_neg pe_int) (pa_cons (pe_callB call_len_seq (by rfl) nl PySem.boot_len (pa_cons (pv 1) pa_nil)) (pa_cons pe_bl (pa_cons pe_non (pa_cons pe_str (pa_cons pe_bl (pa_cons (pe_op op_pow pe_int pe_int) pa_nil))))))))) (pg_name (i := 4) sc_Lright.nd rfl (Or.inl rfl)) (pss_one 
    (ps_if (PW.pt (pw_or (pt_not (pt_val (pcal GN hr pass0 (pa_cons (pv 0) (pa_cons (pv 4) (pa_cons pe_int pa_nil)))))) (pw_or1 (pt_not (pt_val (pcal GN hr pass0 (pa_cons (pv 0) (pa_cons (pv 4) (pa_cons pe_int pa_nil))))))))) (pss_one 
      (ps_ret pe_bl)) pss_nil))) (pss_one 
  (ps_ret pe_bl)))))), ?_⟩
    refine ⟨_, rfl, _, _, _, _, true, rfl, .own C, .base (.ins hx T.cl T.isc.ha T.isc.hn T.isc.htk T.isc.hm), T.isc.me, _, rfl, iteF ?_⟩
    refine ⟨_, rfl, x, C, dx, _, _, rfl, hx, T.cl, T.nB, tf_backs _ _, _, _, _, _, true, rfl, .ty "tuple", .base (.tup ht), kit_ty kt_tuple_tuple, _, rfl, iteF ?_⟩
    refine ⟨_, rfl, x, C, dx, _, _, rfl, hx, T.cl, T.nB, tf_backs _ _, t, _, rfl, .inr (SqT.of ht), fun z hz => ?_⟩
    have S1 : Same H (upd H z (.lst (ns.map V.int))) := new_same hz
    have hl1 := S1 _ _ hl
    have hx1 := S1 _ _ hx
    have hT1 := hT.keep S1
    have hz1 : (upd H z (.lst (ns.map V.int))) z = some (.lst (ns.map V.int)) := upd_same
    generalize upd H z (.lst (ns.map V.int)) = H1 at S1 hl1 hx1 hT1 hz1
    refine ⟨_, rfl, _, _, .lst (SqL.of hz1) (dp_ints ns), .lst (SqL.of hl1) (dp_ints ns), shaped_li ns, shaped_li ns, _, rfl, if_fa (by rw [eqv_li]; simp) ?_⟩
    refine ⟨_, rfl, x, C, dx, _, _, rfl, hx1, T.cl, T.nM, tf_many _ _, _, rfl, l, _, rfl, .inl (SqL.of hl1), rfl, _, rfl, if_fa (by simp) ?_⟩
    refine ⟨_, rfl, x, C, dx, _, _, rfl, hx1, T.cl, T.nM, tf_many _ _, _, _, _, _, false, rfl, .ty "bool", .base (.int _), kit_ty kt_int_bool, _, rfl, iteF ?_⟩
    have hlen : (ns.map V.int).length = ns.length := List.length_map _
    have g4 := g.hi
    refine ⟨_, rfl, l, _, rfl, .inl (SqL.of hl1), _, rfl, by omega, by omega, for_range (lo := 0) (n := (ns.map V.int).length) (fun i σ H' => ∃ v2 v3 : Option V, σ = [some (.ref x), some (.ref l), v2, v3, none] ∧ H' = H1)
      ⟨none, none, rfl, rfl⟩ ?_ ?_⟩
    · rintro i σ H' hi ⟨v2, v3, rfl, rfl⟩
      have hi' : i < ns.length := by omega
      have hbi : ns[i]? = some ns[i] := List.getElem?_eq_getElem hi'
      have hrg := g.rng _ (List.getElem_mem hi')
      generalize ns[i] = b at hbi hrg
      have isi : Is H' (.int (0 + (i : Nat))) (.sc (.int (0 + (i : Nat)))) := ⟨rfl, rfl⟩
      have tbi : tieB ns (.int (0 + (i : Nat))) = true := whole_of (by omega) (by omega)
      have tbb : tieB ns (.int b) = true := whole_of (by omega) (by omega)
      have uniq : ∀ (j : Nat) (c : Int), V.int (0 + (i : Nat)) = .int (j : Nat) → ns[j]? = some c → j = i ∧ c = b := fun j c ev eb => by
        have e1 : (0 + (i : Nat) : Int) = (j : Nat) := by injection ev
        have e2 : j = i := by omega
        subst e2
        rw [hbi] at eb
        exact ⟨rfl, (Option.some.inj eb).symm⟩
      refine ⟨_, rfl, x, dx, _, rfl, hx1, tf_no _ _ (by decide +kernel) (by decide +kernel), _, rfl, x, ns, _, _, rfl, hT1, isi, fun j c ev eb => ?_, fun z => by rw [tbi] at z; cases z⟩
      obtain ⟨rfl, rfl⟩ := uniq j c ev eb
      refine ⟨_, rfl, _, _, _, _, true, rfl, .ty "int", .base (.int c), kit_ty kt_int_int, _, rfl, iteF ?_⟩
      refine ⟨_, rfl, _, _, _, _, false, rfl, .ty "bool", .base (.int c), kit_ty kt_int_bool, _, rfl, iteF ?_⟩
      refine ⟨_, rfl, _, rfl, _, rfl, _, _, _, _, rfl, rfl, SqL.of hl1, at_of (j := j) (v := .int c) (by omega) (ints_at hbi), rfl, _, rfl, if_fa (by simp) ?_⟩
      refine ⟨_, rfl, x, dx, _, rfl, hx1, tf_no _ _ (by decide +kernel) (by decide +kernel), _, rfl, x, ns, _, _, rfl, hT1, isi, fun j2 c2 ev2 eb2 => ?_, fun z => by rw [tbi] at z; cases z⟩
      obtain ⟨rfl, rfl⟩ := uniq j2 c2 ev2 eb2
      refine ⟨_, rfl, _, rfl, _, _, _, _, rfl, rfl, SqL.of hl1, at_of (j := j2) (v := .int c2) (by omega) (ints_at hbi), _, rfl, rfl, _, _, rfl, _, rfl, if_fa (by simp) ?_⟩
      refine ⟨_, rfl, x, dx, _, rfl, hx1, tf_no _ _ (by decide +kernel) (by decide +kernel), _, rfl, x, ns, .int c2, .sc (.int c2), rfl, hT1, ⟨rfl, rfl⟩, fun j3 c3 ev3 eb3 => ?_, fun z => by rw [tbb] at z; cases z⟩
      have e3 : c2 = (j3 : Nat) := by injection ev3
      have inv := g.inv _ _ hbi
      have e4 : c2.toNat = j3 := by omega
      rw [e4, eb3] at inv
      have e5 := Option.some.inj inv
      exact ⟨_, rfl, rfl, _, rfl, if_fa (by simp [e5]) ⟨_, _, rfl, rfl⟩⟩
    · rintro σ H' ⟨v2, v3, rfl, rfl⟩
      refine ⟨_, rfl, _, rfl, l, _, rfl, .inl (SqL.of hl1), _, _, rfl, rfl, ⟨by decide, by decide, by decide⟩, (by show 7 ≤ sizeLine; decide), fun p hp => ?_⟩
      have S2 := new_same (o := .lst [.int (-1), .int ((ns.map V.int).length : Nat), .bl true, .non, .str "0", .bl false, .int (10 ^ (25 : Int).toNat)]) hp
      refine ⟨p, rfl, ⟨_, SqL.of upd_same⟩, for_list (K := K) (a := p) (xs := odds (ns.map V.int).length) (fun i σ H2 => ∃ v2 v3 v4 : Option V, σ = [some (.ref x), some (.ref l), v2, v3, v4] ∧ Same (upd H' p (.lst (odds (ns.map V.int).length))) H2)
        ⟨_, _, none, rfl, Same.refl _⟩ (fun i σ H2 _ ⟨_, _, _, _, S⟩ => S.seq (SqL.of upd_same)) ?_ ?_⟩
      · rintro i y σ H2 hy ⟨v2, v3, v4, rfl, S⟩
        have hym := List.mem_of_getElem? hy
        rw [hlen] at hym
        obtain ⟨sy, ty⟩ := odds_no g y hym
        have hT2 := (hT1.keep S2).keep S
        refine ⟨_, rfl, _, rfl, x, ns, y, 0, rfl, hT2, sy, ty, fun H3 S3 => ⟨_, rfl, iteF ?_⟩⟩
        refine ⟨_, rfl, _, rfl, x, ns, y, 1, rfl, hT2.keep S3, sy, ty, fun H4 S4 => ⟨_, rfl, iteF ?_⟩⟩
        exact ⟨_, _, _, rfl, (S.trans S3).trans S4⟩
      · rintro σ H2 ⟨v2, v3, v4, rfl, S⟩
        exact k _ ((S1.trans S2).trans S)
end
end J

set_option Elab.async false
set_option linter.all false
set_option maxRecDepth 100000
set_option maxHeartbeats 4000000
namespace J
open PySem PySem.Spec PyProof.Rows L2
/-! ### backs that are drawn: the mathematics -/
structure BI (m : Nat) (ns ls : List Int) : Prop where
  len : ns.length = m
  rng : ∀ n ∈ ns, 0 ≤ n ∧ n < (m : Nat)
  inv : ∀ (k : Nat) (b : Int), ns[k]? = some b → ns[b.toNat]? = some (k : Int)
  nd : ls.Nodup
  fx : ∀ z ∈ ls, 0 ≤ z ∧ z < (m : Nat) ∧ ns[z.toNat]? = some z
theorem map_erase {α β : Type} (f : α → β) : ∀ (l : List α) (k : Nat), (l.map f).eraseIdx k = (l.eraseIdx k).map f
  | [], _ => rfl
  | a :: l, 0 => rfl
  | a :: l, k + 1 => by
    show f a :: (l.map f).eraseIdx k = f a :: (l.eraseIdx k).map f
    rw [map_erase f l k]
theorem erase_mem {l : List Int} (nd : l.Nodup) {i : Nat} {a z : Int} (ha : l[i]? = some a) (hz : z ∈ l.eraseIdx i) : z ∈ l ∧ z ≠ a := by
  obtain ⟨j, hj, e⟩ := List.mem_eraseIdx_iff_getElem?.mp hz
  refine ⟨List.mem_of_getElem? e, fun q => hj ?_⟩
  subst q
  exact nd_ix nd e ha
theorem BI.step {m : Nat} {ns ls : List Int} (B : BI m ns ls) {i j : Nat} {a b : Int} (ha : ls[i]? = some a) (hb : (ls.eraseIdx i)[j]? = some b) : BI m ((ns.set a.toNat b).set b.toNat a) ((ls.eraseIdx i).eraseIdx j) := by
  have nd1 : (ls.eraseIdx i).Nodup := B.nd.sublist (List.eraseIdx_sublist ls i)
  obtain ⟨mb, nab⟩ := erase_mem B.nd ha (List.mem_of_getElem? hb)
  have ma := List.mem_of_getElem? ha
  obtain ⟨a0, a1, af⟩ := B.fx a ma
  obtain ⟨b0, b1, bf⟩ := B.fx b mb
  have nt : b.toNat ≠ a.toNat := by omega
  have la : a.toNat < ns.length := by rw [B.len]; omega
  have lb : b.toNat < ns.length := by rw [B.len]; omega
  have get : ∀ k : Nat, ((ns.set a.toNat b).set b.toNat a)[k]? = if b.toNat = k then some a else if a.toNat = k then some b else ns[k]? := fun k => by
    rw [List.getElem?_set]
    split
    · rw [List.length_set, if_pos (by omega)]
    · rw [List.getElem?_set]
      split
      · first
          | rfl
          | rw [if_pos (by omega)]
      · rfl
  refine ⟨by rw [List.length_set, List.length_set]; exact B.len, fun n hn => ?_, fun k c hc => ?_, nd1.sublist (List.eraseIdx_sublist _ j), fun z hz => ?_⟩
  · rcases List.mem_or_eq_of_mem_set hn with hn | rfl
    · rcases List.mem_or_eq_of_mem_set hn with hn | rfl
      · exact B.rng n hn
      · exact ⟨b0, b1⟩
    · exact ⟨a0, a1⟩
  · rw [get] at hc
    split at hc
    · rename_i e
      obtain rfl := Option.some.inj hc
      rw [get, if_neg nt, if_pos rfl]
      congr 1
      omega
    · rename_i e1
      split at hc
      · rename_i e2
        obtain rfl := Option.some.inj hc
        rw [get, if_pos rfl]
        congr 1
        omega
      · rename_i e2
        have q := B.inv k c hc
        rw [get, if_neg, if_neg]
        · exact q
        · intro e
          rw [← e, af] at q
          have := Option.some.inj q
          omega
        · intro e
          rw [← e, bf] at q
          have := Option.some.inj q
          omega
  · obtain ⟨z1, zb⟩ := erase_mem nd1 hb hz
    obtain ⟨z2, za⟩ := erase_mem B.nd ha z1
    obtain ⟨c0, c1, cf⟩ := B.fx z z2
    refine ⟨c0, c1, ?_⟩
    rw [get, if_neg (by omega), if_neg (by omega)]
    exact cf
def idI (m : Nat) : List Int := (List.range m).map fun i => ((i : Nat) : Int)
theorem idI_at {m k : Nat} {b : Int} (h : (idI m)[k]? = some b) : b = k ∧ k < m := by
  unfold idI at h
  rw [List.getElem?_map] at h
  have hk : k < m := by
    have q := (List.getElem?_eq_some_iff.mp (by rw [← List.getElem?_map] at h; exact h)).1
    simpa using q
  rw [List.getElem?_range hk] at h
  exact ⟨(Option.some.inj h).symm, hk⟩
theorem idI_get {m k : Nat} (h : k < m) : (idI m)[k]? = some (k : Int) := by
  unfold idI
  rw [List.getElem?_map, List.getElem?_range h]
  rfl
theorem BI.start (m : Nat) : BI m (idI m) (idI m) := by
  have mem : ∀ n ∈ idI m, 0 ≤ n ∧ n < (m : Nat) := fun n hn => by
    obtain ⟨k, hk⟩ := List.getElem?_of_mem hn
    obtain ⟨rfl, h⟩ := idI_at hk
    omega
  refine ⟨by simp [idI], mem, fun k b hb => ?_, ?_, fun z hz => ?_⟩
  · obtain ⟨rfl, h⟩ := idI_at hb
    exact idI_get (by omega)
  · unfold idI
    exact List.Pairwise.map _ (fun a b (h : a ≠ b) => by omega) List.nodup_range
  · obtain ⟨h1, h2⟩ := mem z hz
    refine ⟨h1, h2, ?_⟩
    rw [idI_get (by omega)]
    congr 1
    omega
theorem rgV_id {m : Int} (h : 0 ≤ m) : rgV 0 m = (idI m.toNat).map V.int := by
  unfold rgV idI
  rw [List.map_map, show m - 0 = m by omega]
  refine List.map_congr_left fun i _ => ?_
  show V.int (0 + (i : Int)) = V.int (i : Int)
  rw [Int.zero_add]
theorem seq_at {i : Int} {n : Nat} (h0 : 0 ≤ i) (h : i < (n : Nat)) : seqIndex? i n = some i.toNat := by
  have h1 : ixN n i = some i.toNat := by
    unfold ixN
    rw [if_pos h0, if_pos h]
  exact (ixN_seq h1).1
theorem ixN_at {i : Int} {n : Nat} (h0 : 0 ≤ i) (h : i < (n : Nat)) : ixN n i = some i.toNat := by
  unfold ixN
  rw [if_pos h0, if_pos h]
abbrev s_Lbacks : Stmt := top 17
theorem sc_Lbacks : FnScope ["_law_hand_here", "_law_many", "_law_backs_here", "_law_left", "_law_k", "_law_one", "_law_other"] ["_law_hand_here", "_law_many"] (defScope s_Lbacks) := ⟨rfl, rfl, rfl, by decide +kernel, rfl, by decide +kernel, by decide +kernel⟩
def spBacks : Sp := fun vs H Q _ => ∃ (h q : Addr) (m : Int), vs = [.ref h, .int m] ∧ 2 ≤ m ∧ m ≤ 4 ∧ Hand H h q ∧ ∀ (ns : List Int) (p : Addr) (H' : Hp), (ns.length : Nat) = m → GoodB ns → But h H H' → H p = none → H' p = some (.lst (ns.map V.int)) → Hand H' h q → Q (.ref p) H'
theorem Hand.h_ne {H : Hp} {h q p : Addr} (x : Hand H h q) (n : H p = none) : h ≠ p ∧ q ≠ p := by
  obtain ⟨cs, i, r, t, e1, e2, _⟩ := x
  exact ⟨ne_of_none e1 n, ne_of_none e2 n⟩
theorem But.put2 {h p : Addr} {H H' : Hp} {o : HO} (B : But h H H') (n : H p = none) : But h H (upd H' p o) := fun b u nb e => by
  rw [upd_ne (ne_of_none e n)]
  exact B b u nb e
section
variable {P : Program} {w : World} {K : PySem.W.Frag} {mg : Str → Option Value} {base : Heap}
theorem ok_Lbacks {f fD : Addr} {fd fdD : FuncData} (F : Fun K "_law_backs" "_law_backs" s_Lbacks f fd) (nli : mg "list" = none) (nl : mg "len" = none) (nr : mg "range" = none)
    (GD : Cal P w K mg base CX0 2 "_law_draw" fD fdD ["_law_hand_here", "_law_many"] spDraw) : FnOk P w K mg base CX0 3 f fd ["_law_hand_here", "_law_many"] spBacks := by
  refine F.ok sc_Lbacks (fun vs H Q E h => ?_) (fun cdv A outer s H vs Q E hr h => ?_)
  · obtain ⟨h, q, m, rfl, _⟩ := h
    rfl
  · obtain ⟨h, q, m, rfl, m2, m4, hh, k⟩ := h
    refine ⟨_, (pss_cons 
  (ps_set (i := 2) sc_Lbacks.nd rfl (Or.inl rfl) (pe_listRg rfl (by rfl) nli (prg_1 (by rfl) nr (pv 1)))) (pss_cons 
  (ps_set (i := 3) sc_Lbacks.nd rfl (Or.inl rfl) (pe_listRg rfl (by rfl) nli (prg_1 (by rfl) nr (pv 1)))) (pss_cons 
  (ps_for PassesOwn.never rfl (pi_range1 (by rfl) nr (pa_cons (pe_op op_fdiv (pv 1) pe_int) pa_nil)) (pg_name (i := 4) sc_Lbacks.nd rfl (Or.inl rfl)) (pss_one 
    (ps_if (pt_cmpR op_eq (pcal GD hr pass0 (pa_cons (pv 0) (pa_cons pe_int pa_nil))) pe_int (nomark _)) (pss_cons 
      (ps_set (i := 5) sc_Lbacks.nd rfl (Or.inl rfl) (pe_bm PySem.F.plainAttrs_list PySem.F.slot_list_pop PySem.F.type_list_pop mt_popAt (pv 3) (pa_cons (pcal GD hr pass0 (pa_cons (pv 0) (pa_cons (pe_callB call_len_seq (by rfl) nl PySem.boot_len (pa_cons (pv 3) pa_nil)) pa_nil))) pa_nil))) (pss_cons 
      (ps_set (i := 6) sc_Lbacks.nd rfl (Or.inl rfl) (pe_bm PySem.F.plainAttrs_list PySem.F.slot_list_pop PySem.F.type_list_pop mt_popAt (pv 3) (pa_cons (pcal GD hr pass0 (pa_cons (pv 0) (pa_cons (pe_callB call_len_seq (by rfl) nl PySem.boot_len (pa_cons (pv 3) pa_nil)) pa_nil))) pa_nil))) (pss_cons 
      (ps_asg (pv 6) (pg_sub (pv 2) (pv 5) set_list)) (pss_one 
      (ps_asg (pv 5) (pg_sub (pv 2) (pv 6) set_list)))))) pss_nil))) (pss_one 
  (ps_ret (pv 2)))))), ?_⟩
    have rg : RgOk 0 m := RgOk.of_le (by omega) (by omega) (by omega) (by omega)
    refine ⟨_, rfl, m, rfl, rg, fun p hp => ?_⟩
    refine ⟨_, rfl, m, rfl, rg, fun l hl => ?_⟩
    rw [rgV_id (by omega)]
    rw [rgV_id (by omega)] at hl
    have npl : p ≠ l := ne_of_none upd_same hl
    have hl0 : H l = none := by
      rw [upd_ne npl.symm] at hl
      exact hl
    obtain ⟨nhp, nqp⟩ := hh.h_ne hp
    obtain ⟨nhl, nql⟩ := hh.h_ne hl0
    refine ⟨_, rfl, _, _, rfl, rfl, ⟨by decide, by decide⟩, _, rfl, by omega, by omega, for_range (lo := 0) (n := (m / 2).toNat) (fun i σ H' => ∃ (ns ls : List Int) (v4 v5 v6 : Option V), σ = [some (.ref h), some (.int m), some (.ref p), some (.ref l), v4, v5, v6] ∧
        BI m.toNat ns ls ∧ m.toNat ≤ ls.length + 2 * i ∧ ls.length ≤ m.toNat ∧ But h H H' ∧ Hand H' h q ∧ H' p = some (.lst (ns.map V.int)) ∧ H' l = some (.lst (ls.map V.int)))
      ⟨idI m.toNat, idI m.toNat, none, none, none, rfl, BI.start _, by simp [idI], by simp [idI], ((But.refl h H).put2 hp).put2 hl0, (hh.put nhp nqp).put nhl nql, by rw [upd_ne npl, upd_same], upd_same⟩ ?_ ?_⟩
    · rintro i σ H1 hi ⟨ns, ls, v4, v5, v6, rfl, B, hc, lsm, b1, h1, ep, el⟩
      have hls : 2 ≤ ls.length := by omega
      refine ⟨_, rfl, h, q, 3, rfl, by decide, by decide, h1, fun v H2 v0 v3 b2 h2 => ⟨rfl, _, rfl, ?_⟩⟩
      refine ifD (fun c => ?_) (fun c => ⟨ns, ls, _, _, _, rfl, B, by omega, lsm, b1.trans b2, h2, b2 _ _ nhp.symm ep, b2 _ _ nhl.symm el⟩)
      have ep2 := b2 _ _ nhp.symm ep
      have el2 := b2 _ _ nhl.symm el
      have lml : (ls.map V.int).length = ls.length := List.length_map _
      refine ⟨_, rfl, .inl ⟨rfl, _, SqL.of el2⟩, _, rfl, _, rfl, l, _, rfl, .inl (SqL.of el2), h, q, _, rfl, by omega, by omega, h2, fun a H3 a0 a1 b3 h3 => ?_⟩
      have ep3 := b3 _ _ nhp.symm ep2
      have el3 := b3 _ _ nhl.symm el2
      rw [lml] at a1
      have hla : a.toNat < ls.length := by omega
      have hA : ls[a.toNat]? = some ls[a.toNat] := List.getElem?_eq_getElem hla
      generalize ls[a.toNat] = x at hA
      refine ⟨l, _, a, a.toNat, .int x, rfl, rfl, el3, by omega, by omega, seq_at a0 (by omega), ints_at hA, ?_⟩
      rw [map_erase]
      have e1 : (upd H3 l (.lst ((ls.eraseIdx a.toNat).map V.int))) l = some (.lst ((ls.eraseIdx a.toNat).map V.int)) := upd_same
      have ep4 : (upd H3 l (.lst ((ls.eraseIdx a.toNat).map V.int))) p = some (.lst (ns.map V.int)) := by rw [upd_ne npl]; exact ep3
      have h4 : Hand (upd H3 l (.lst ((ls.eraseIdx a.toNat).map V.int))) h q := h3.put nhl nql
      have b4 : But h H (upd H3 l (.lst ((ls.eraseIdx a.toNat).map V.int))) := ((b1.trans b2).trans b3).put2 hl0
      have le : (ls.eraseIdx a.toNat).length = ls.length - 1 := by rw [List.length_eraseIdx, if_pos hla]
      have lml2 : ((ls.eraseIdx a.toNat).map V.int).length = ls.length - 1 := by rw [List.length_map, le]
      generalize upd H3 l (.lst ((ls.eraseIdx a.toNat).map V.int)) = H4 at e1 ep4 h4 b4
      refine ⟨_, rfl, .inl ⟨rfl, _, SqL.of e1⟩, _, rfl, _, rfl, l, _, rfl, .inl (SqL.of e1), h, q, _, rfl, by omega, by omega, h4, fun b H5 b0' b1' b5 h5 => ?_⟩
      have ep5 := b5 _ _ nhp.symm ep4
      have el5 := b5 _ _ nhl.symm e1
      rw [lml2] at b1'
      have hlb : b.toNat < (ls.eraseIdx a.toNat).length := by omega
      have hB : (ls.eraseIdx a.toNat)[b.toNat]? = some (ls.eraseIdx a.toNat)[b.toNat] := List.getElem?_eq_getElem hlb
      generalize (ls.eraseIdx a.toNat)[b.toNat] = y at hB
      refine ⟨l, _, b, b.toNat, .int y, rfl, rfl, el5, by omega, by omega, seq_at b0' (by omega), ints_at hB, ?_⟩
      rw [map_erase]
      have B2 := B.step hA hB
      obtain ⟨x0, x1, _⟩ := B.fx x (List.mem_of_getElem? hA)
      obtain ⟨y0, y1, _⟩ := B.fx y (erase_mem B.nd hA (List.mem_of_getElem? hB)).1
      have lns := B.len
      have ep6 : (upd H5 l (.lst (((ls.eraseIdx a.toNat).eraseIdx b.toNat).map V.int))) p = some (.lst (ns.map V.int)) := by rw [upd_ne npl]; exact ep5
      refine ⟨_, rfl, _, rfl, _, rfl, p, _, _, x.toNat, rfl, rfl, ep6, ixN_at x0 (by rw [List.length_map]; omega), ?_⟩
      refine ⟨_, rfl, _, rfl, _, rfl, p, _, _, y.toNat, rfl, rfl, upd_same, ixN_at y0 (by rw [List.length_set, List.length_map]; omega), ?_⟩
      refine ⟨_, _, _, _, _, rfl, B2, ?_, ?_, ?_, ?_, ?_, ?_⟩
      · rw [List.length_eraseIdx, if_pos hlb, le]
        omega
      · rw [List.length_eraseIdx, if_pos hlb, le]
        omega
      · exact (((b4.trans b5).put2 hl0).put2 hp).put2 hp
      · exact (((h5.put nhl nql).put nhp nqp).put nhp nqp)
      · rw [upd_same, List.map_set, List.map_set]
      · rw [upd_ne npl.symm, upd_ne npl.symm, upd_same]
    · rintro σ H1 ⟨ns, ls, v4, v5, v6, rfl, B, hc, lsm, b1, h1, ep, el⟩
      have lns := B.len
      refine ⟨_, rfl, k ns p H1 (by omega) ⟨by omega, by omega, fun n hn => ?_, B.inv⟩ b1 hp ep h1⟩
      have := B.rng n hn
      omega
end
end J

set_option Elab.async false
set_option linter.all false
set_option maxRecDepth 100000
set_option maxHeartbeats 4000000
namespace J
open PySem PySem.Spec PyProof.Rows L2
/-! ### a thing that is drawn -/
def okV : V → Bool
  | .non => true | .bl _ => true | .int _ => true | .str b => PyData.strOk b | _ => false
theorem okV_sc {x : V} (h : okV x = true) : isSc x = true := by
  cases x <;> first | rfl | cases h
def IOk (H : Hp) (x : V) : Prop := okV x = true ∨ ∃ z, x = .ref z ∧ H z = some (.tup [.int 0])
theorem IOk.keep {H H' : Hp} {x : V} (i : IOk H x) (S : Same H H') : IOk H' x := by
  rcases i with i | ⟨z, e, t⟩
  · exact .inl i
  · exact .inr ⟨z, e, S _ _ t⟩
theorem IOk.but {H H' : Hp} {h q : Addr} {x : V} (i : IOk H x) (g : Hand H h q) (B : But h H H') : IOk H' x := by
  obtain ⟨cs, j, r, t, e1, _⟩ := g
  rcases i with i | ⟨z, e, t⟩
  · exact .inl i
  · exact .inr ⟨z, e, B _ _ (ne_of t e1 (by intro y; cases y)) t⟩
theorem IOk.put {H : Hp} {p : Addr} {xs ys : List V} {x : V} (i : IOk H x) (e : H p = some (.lst xs)) : IOk (upd H p (.lst ys)) x := by
  rcases i with i | ⟨z, e2, t⟩
  · exact .inl i
  · exact .inr ⟨z, e2, by rw [upd_ne (ne_of t e (by intro y; cases y))]; exact t⟩
theorem IOk.is {H : Hp} {x : V} (i : IOk H x) : ∃ s, Is H x s := by
  rcases i with i | ⟨z, e, t⟩
  · exact ⟨.sc x, rfl, okV_sc i⟩
  · exact ⟨.tup [.int 0], z, e, t⟩
structure TOk (H0 H : Hp) (v : V) (s : Sh) : Prop where
  it : ∀ x ∈ items s, IOk H x
  len : (items s).length ≤ 6
  new : ∀ p, v = .ref p → H0 p = none
abbrev s_Lthing : Stmt := top 19
theorem sc_Lthing : FnScope ["_law_hand_here", "_law_sort", "_law_backs_here", "_law_place", "_law_k"] ["_law_hand_here"] (defScope s_Lthing) := ⟨rfl, rfl, rfl, by decide +kernel, rfl, by decide +kernel, by decide +kernel⟩
def spThing : Sp := fun vs H Q _ => ∃ (h q : Addr), vs = [.ref h] ∧ Hand H h q ∧ ∀ (v : V) (s : Sh) (H' : Hp), But h H H' → Hand H' h q → Is H' v s → TOk H H' v s → Q v H'
section
variable {P : Program} {w : World} {K : PySem.W.Frag} {mg : Str → Option Value} {base : Heap}
theorem ok_Lthing {f fD fB : Addr} {fd fdD fdB : FuncData} (F : Fun K "_law_thing" "_law_thing" s_Lthing f fd) (nt : mg "tuple" = none) (nl : mg "len" = none) (nr : mg "range" = none)
    (GD : Cal P w K mg base CX0 2 "_law_draw" fD fdD ["_law_hand_here", "_law_many"] spDraw) (GB : Cal P w K mg base CX0 3 "_law_backs" fB fdB ["_law_hand_here", "_law_many"] spBacks) : FnOk P w K mg base CX0 4 f fd ["_law_hand_here"] spThing := by
  refine F.ok sc_Lthing (fun vs H Q E h => ?_) (fun cdv A outer s H vs Q E hr h => ?_)
  · obtain ⟨h, q, rfl, _⟩ := h
    rfl
  · obtain ⟨h, q, rfl, hh, k⟩ := h
    refine ⟨_, (pss_cons 
  (ps_set (i := 1) sc_Lthing.nd rfl (Or.inl rfl) (pcal GD hr pass0 (pa_cons (pv 0) (pa_cons pe_int pa_nil)))) (pss_cons 
  (ps_if (pt_cmpR op_eq (pv 1) pe_int (nomark _)) (pss_one 
    (ps_ret (pe_ix ix_list (pe_lst (pa_cons pe_non (pa_cons pe_str (pa_cons pe_int (pa_cons pe_bl (pa_cons (pe_disp (pps_cons pe_int pe_int (pps_cons pe_int pe_int pps_nil)) (by rfl) (by rfl) (fun z => by cases z) (by decide)) (pa_cons (pe_op op_pow pe_int pe_int) (pa_cons pe_str (pa_cons pe_str pa_nil))))))))) (pcal GD hr pass0 (pa_cons (pv 0) (pa_cons pe_int pa_nil))) (fun _ _ => rfl)))) pss_nil) (pss_cons 
  (ps_set (i := 2) sc_Lthing.nd rfl (Or.inl rfl) (pcal GB hr pass0 (pa_cons (pv 0) (pa_cons (pe_op op_add pe_int (pcal GD hr pass0 (pa_cons (pv 0) (pa_cons pe_int pa_nil)))) pa_nil)))) (C8.pss_cut 
  (ps_if (pt_cmpR op_eq (pv 1) pe_int (nomark _)) (pss_one 
    (ps_setLc (i := 2) (own := [("_law_k", 4)]) (g := gName 4) rfl sc_Lthing.nd rfl rfl (sw_true rfl rfl rfl (by decide +kernel)) (pi_range1 (by rfl) nr (pa_cons (pcal GD hr pass0 (pa_cons (pv 0) (pa_cons pe_int pa_nil))) pa_nil)) (blkOk_by (own := [("_law_k", 4)]) (N := ["_law_hand_here", "_law_sort", "_law_backs_here", "_law_place", "_law_k"]) (sc := defScope s_Lthing) (by decide +kernel)) (fun _ _ _ _ _ => pg_name (i := 4) sc_Lthing.nd rfl (Or.inl rfl)) (fun _ _ _ _ _ => pts_nil) (fun _ _ _ _ _ => (pcal GD hr pass0 (pa_cons (pv 0) (pa_cons pe_int pa_nil)))))) pss_nil) (C8.pss_cut 
  (ps_if (pt_cmpR op_eq (pv 1) pe_int (nomark _)) (pss_cons 
    (ps_set (i := 3) sc_Lthing.nd rfl (Or.inl rfl) (pcal GD hr pass0 (pa_cons (pv 0) (pa_cons (pe_callB call_len_seq (by rfl) nl PySem.boot_len (pa_cons (pv 2) pa_nil)) pa_nil)))) (pss_one 
    (ps_asg (pe_ix ix_list (pe_lst (pa_cons (pe_un un_neg pe_int) (pa_cons (pe_callB call_len_seq (by rfl) nl PySem.boot_len (pa_cons (pv 2) pa_nil)) (pa_cons pe_bl (pa_cons pe_non (pa_cons pe_str (pa_cons (pe_op op_pow pe_int pe_int) (pa_cons pe_bl (pa_cons (pe_tup (pa_cons pe_int pa_nil)) pa_nil))))))))) (pcal GD hr pass0 (pa_cons (pv 0) (pa_cons pe_int pa_nil))) (fun _ _ => rfl)) (pg_sub (pv 2) (pv 3) set_list)))) pss_nil) (C8.pss_cut 
  (ps_if (pt_cmpR op_eq (pv 1) pe_int (nomark _)) (pss_one 
    (ps_asg (pcal GD hr pass0 (pa_cons (pv 0) (pa_cons (pe_callB call_len_seq (by rfl) nl PySem.boot_len (pa_cons (pv 2) pa_nil)) pa_nil))) (pg_sub (pv 2) (pcal GD hr pass0 (pa_cons (pv 0) (pa_cons (pe_callB call_len_seq (by rfl) nl PySem.boot_len (pa_cons (pv 2) pa_nil)) pa_nil))) set_list))) pss_nil) (pss_one 
  (ps_ret (pe_ifExp (pt_cmpR op_eq (pcal GD hr pass0 (pa_cons (pv 0) (pa_cons pe_int pa_nil))) pe_int (nomark _)) (pv 2) (pe_callTy call_tuple_of (by rfl) nt (by decide +kernel) (pa_cons (pv 2) pa_nil))))))))))), ?_⟩
    refine ⟨_, rfl, h, q, 8, rfl, by decide, by decide, hh, fun so H1 so0 so8 b1 h1 => ?_⟩
    refine ⟨_, rfl, rfl, _, rfl, ?_⟩
    refine ifD (fun c => ?_) (fun c => ?_)
    · -- one of the written things
      refine fun p new => ⟨upd_same, [(Sum.inl 0, .int 0), (Sum.inl 1, .int 1)], rfl, (by decide), _, _, rfl, rfl, ⟨by decide, by decide, by decide⟩, (by show 8 ≤ sizeLine; decide), fun l hl => ?_⟩
      generalize hkk : mergeK [] [((Sum.inl 0 : Key), V.int 0), (Sum.inl 1, V.int 1)] = kk
      rw [hkk] at hl
      rw [upd_upd] at hl ⊢
      have ep : (upd H1 p (.dK kk)) p = some (.dK kk) := upd_same
      have g2 : Hand (upd H1 p (.dK kk)) h q := h1.new new
      have S2 : Same H1 (upd H1 p (.dK kk)) := new_same new
      generalize upd H1 p (.dK kk) = H2 at ep g2 S2 hl
      have nhl := (g2.h_ne hl).1
      refine ⟨_, rfl, h, q, 8, rfl, by decide, by decide, g2.new hl, fun v H3 v0 v8 b3 h3 => ?_⟩
      have el := b3 _ _ nhl.symm upd_same
      have npl : p ≠ l := ne_of_none ep hl
      have nph : p ≠ h := by
        obtain ⟨cs, i, r, t, e1, _⟩ := g2
        exact ne_of ep e1 (by intro z; cases z)
      have ep3 : H3 p = some (.dK kk) := b3 _ _ nph (by rw [upd_ne npl]; exact ep)
      have B3 : But h H H3 := ((b1.trans (But.same S2)).trans (But.same (new_same hl))).trans b3
      have hn : H p = none := by
        cases e : H p with
        | none => rfl
        | some o =>
          have := b1 _ _ nph e
          rw [new] at this
          cases this
      have all : ∀ y ∈ ([.non, .str "01", .int 2, .bl true, .ref p, .int (10 ^ (20 : Int).toNat), .str "", .str "10"] : List V), isSc y = true ∨ y = .ref p := fun y hy => by
        simp only [List.mem_cons, List.not_mem_nil, or_false] at hy
        rcases hy with rfl | rfl | rfl | rfl | rfl | rfl | rfl | rfl
        · exact .inl rfl
        · exact .inl rfl
        · exact .inl rfl
        · exact .inl rfl
        · exact .inr rfl
        · exact .inl rfl
        · exact .inl rfl
        · exact .inl rfl
      have hv : v.toNat < ([.non, .str "01", .int 2, .bl true, .ref p, .int (10 ^ (20 : Int).toNat), .str "", .str "10"] : List V).length := by
        show v.toNat < 8
        omega
      have hy := List.getElem?_eq_getElem hv
      have hm := all _ (List.getElem_mem hv)
      generalize ([.non, .str "01", .int 2, .bl true, .ref p, .int (10 ^ (20 : Int).toNat), .str "", .str "10"] : List V)[v.toNat] = y at hy hm
      refine ⟨l, _, v, y, rfl, rfl, SqL.of el, at_of (j := v.toNat) (by omega) hy, ?_⟩
      rcases hm with hm | rfl
      · refine k y (.sc y) H3 B3 h3 ⟨rfl, hm⟩ ⟨(fun x hx => nomatch hx), Nat.zero_le 6, fun p2 e2 => ?_⟩
        rw [e2] at hm
        cases hm
      · refine k _ .dk H3 B3 h3 ⟨p, kk, rfl, ep3⟩ ⟨(fun x hx => nomatch hx), Nat.zero_le 6, fun p2 e2 => ?_⟩
        injection e2 with e2
        rw [← e2]
        exact hn
    -- backs
    refine ⟨_, rfl, _, rfl, h, q, 3, rfl, by decide, by decide, h1, fun d H2 d0 d3 b2 h2 => ⟨_, _, rfl, rfl, h, q, 2 + d, rfl, by omega, by omega, h2, fun ns p H3 ln gns b3 hp2 ep3 h3 => ?_⟩⟩
    have B3 : But h H H3 := (b1.trans b2).trans b3
    have nph : p ≠ h := ((h2.h_ne hp2).1).symm
    have hp : H p = none := by
      cases e : H p with
      | none => rfl
      | some o =>
        have := b2 _ _ nph (b1 _ _ nph e)
        rw [hp2] at this
        cases this
    have mid : ∀ (σ : L2.St) (H' : Hp), Prop := fun σ H' => True
    let Mid : L2.St → Hp → Prop := fun σ' H' => ∃ (p : Addr) (xs : List V) (v3 : Option V), σ' = [some (.ref h), some (.int so), some (.ref p), v3, none] ∧ But h H H' ∧ Hand H' h q ∧ H p = none ∧ H' p = some (.lst xs) ∧ xs.length ≤ 6 ∧ (so = 1 ∨ 2 ≤ xs.length) ∧ ∀ x ∈ xs, IOk H' x
    have m3 : Mid [some (.ref h), some (.int so), some (.ref p), none, none] H3 := ⟨p, ns.map V.int, none, rfl, B3, h3, hp, ep3, by rw [List.length_map]; omega, .inr (by rw [List.length_map]; omega), fun x hx => by
      obtain ⟨n, _, rfl⟩ := List.mem_map.mp hx
      exact .inl rfl⟩
    refine ⟨Mid, ?_, ?_⟩
    · refine ⟨_, rfl, rfl, _, rfl, ?_⟩
      refine ifD (fun c1 => ?_) (fun c1 => m3)
      have so1 : so = 1 := by injection c1
      refine ⟨_, rfl, h, q, 7, rfl, by decide, by decide, h3, fun n H4 n0 n7 b4 h4 => ⟨n, rfl, by omega, by omega, fun D hD => ?_⟩⟩
      have nhD := (h4.h_ne hD).1
      have B4 := B3.trans b4
      have hD0 : H D = none := by
        cases e : H D with
        | none => rfl
        | some o =>
          have := B4 _ _ nhD.symm e
          rw [hD] at this
          cases this
      refine lc_range (lo := 0) (n := n.toNat) (fun i H5 => ∃ zs : List Int, zs.length = i ∧ H5 D = some (.lst (zs.map V.int)) ∧ But h H H5 ∧ Hand H5 h q) ⟨[], rfl, upd_same, B4.trans (But.same (new_same hD)), h4.new hD⟩ ?_ ?_
      · rintro i H5 hi ⟨zs, lz, eD, b5, h5⟩
        refine ⟨rfl, yesT ?_⟩
        refine ⟨_, rfl, h, q, 4, rfl, by decide, by decide, h5, fun z H6 z0 z4 b6 h6 => ⟨_, b6 _ _ nhD.symm eD, ?_, zs ++ [z], ?_, ?_, (b5.trans b6).put2 hD0, h6.put nhD (h4.h_ne hD).2⟩⟩
        · rw [List.length_map]
          exact small1000 (by omega)
        · rw [List.length_append, lz]
          rfl
        · rw [upd_same, List.map_append]
          rfl
      · rintro H5 ⟨zs, lz, eD, b5, h5⟩
        exact ⟨D, zs.map V.int, none, rfl, b5, h5, hD0, eD, by rw [List.length_map]; omega, .inl so1, fun x hx => by
          obtain ⟨n, _, rfl⟩ := List.mem_map.mp hx
          exact .inl rfl⟩
    rintro σ4 H4 ⟨p, xs, v3, rfl, b4, h4, hp, ep, lx, l2, io⟩
    refine ⟨Mid, ?_, ?_⟩
    · refine ⟨_, rfl, rfl, _, rfl, ?_⟩
      refine ifD (fun c1 => ?_) (fun c1 => ⟨p, xs, v3, rfl, b4, h4, hp, ep, lx, l2, io⟩)
      have so2 : so = 2 := by injection c1
      have hl2 : 2 ≤ xs.length := by omega
      have nhp : h ≠ p := by
        intro e
        rw [e] at hh
        obtain ⟨cs, i, r, t, e1, _⟩ := hh
        rw [hp] at e1
        cases e1
      have nqp := (hh.h_ne hp).2
      refine ⟨_, rfl, _, rfl, p, _, rfl, .inl (SqL.of ep), h, q, _, rfl, by omega, by omega, h4, fun a H5 a0 a1 b5 h5 => ?_⟩
      have ep5 := b5 _ _ nhp.symm ep
      refine ⟨_, rfl, _, rfl, p, _, rfl, .inl (SqL.of ep5), _, _, rfl, rfl, ⟨by decide, by decide, by decide⟩, (by show 1 ≤ sizeLine; decide), fun z hz => ?_⟩
      have ez : (upd H5 z (.tup [.int 0])) z = some (.tup [.int 0]) := upd_same
      have g6 := h5.new (o := .tup [.int 0]) hz
      have S6 : Same H5 (upd H5 z (.tup [.int 0])) := new_same hz
      generalize upd H5 z (.tup [.int 0]) = H6 at ez g6 S6
      refine ⟨(by show 8 ≤ sizeLine; decide), fun l hl => ?_⟩
      have nhl := (g6.h_ne hl).1
      refine ⟨_, rfl, h, q, 8, rfl, by decide, by decide, g6.new hl, fun v H7 v0 v8 b7 h7 => ?_⟩
      have el := b7 _ _ nhl.symm upd_same
      have S7 : But h H5 H7 := (But.same (S6.trans (new_same hl))).trans b7
      have ep7 := S7 _ _ nhp.symm ep5
      have ez7 : IOk H7 (.ref z) := IOk.but (.inr ⟨z, rfl, by rw [upd_ne (ne_of_none ez hl)]; exact ez⟩) (g6.new hl) b7
      have all : ∀ y ∈ ([.int (-1), .int (xs.length : Nat), .bl true, .non, .str "0", .int (10 ^ (30 : Int).toNat), .bl false, .ref z] : List V), IOk H7 y := fun y hy => by
        simp only [List.mem_cons, List.not_mem_nil, or_false] at hy
        rcases hy with rfl | rfl | rfl | rfl | rfl | rfl | rfl | rfl
        · exact .inl rfl
        · exact .inl rfl
        · exact .inl rfl
        · exact .inl rfl
        · exact .inl (by show PyData.strOk ("0" : Str) = true; decide +kernel)
        · exact .inl rfl
        · exact .inl rfl
        · exact ez7
      have hv : v.toNat < ([.int (-1), .int (xs.length : Nat), .bl true, .non, .str "0", .int (10 ^ (30 : Int).toNat), .bl false, .ref z] : List V).length := by
        show v.toNat < 8
        omega
      have hy := List.getElem?_eq_getElem hv
      have hm := all _ (List.getElem_mem hv)
      generalize ([.int (-1), .int (xs.length : Nat), .bl true, .non, .str "0", .int (10 ^ (30 : Int).toNat), .bl false, .ref z] : List V)[v.toNat] = y at hy hm
      refine ⟨l, _, v, y, rfl, rfl, SqL.of el, at_of (j := v.toNat) (by omega) hy, ?_⟩
      refine ⟨_, rfl, _, rfl, p, xs, a, a.toNat, rfl, rfl, ep7, ixN_at a0 a1, ?_⟩
      refine ⟨p, _, _, rfl, ((b4.trans b5).trans S7).put2 hp, h7.put nhp nqp, hp, upd_same, by rw [List.length_set]; exact lx, .inr (by rw [List.length_set]; exact hl2), fun x hx => ?_⟩
      refine IOk.put ?_ ep7
      rcases List.mem_or_eq_of_mem_set hx with hx | rfl
      · exact ((io x hx).but h4 b5).but h5 S7
      · exact hm
    rintro σ5 H5 ⟨p, xs, v3, rfl, b4, h4, hp, ep, lx, l2, io⟩
    have nhp : h ≠ p := by
      intro e
      rw [e] at hh
      obtain ⟨cs, i, r, t, e1, _⟩ := hh
      rw [hp] at e1
      cases e1
    have nqp := (hh.h_ne hp).2
    refine ⟨Mid, ?_, ?_⟩
    · refine ⟨_, rfl, rfl, _, rfl, ?_⟩
      refine ifD (fun c1 => ?_) (fun c1 => ⟨p, xs, v3, rfl, b4, h4, hp, ep, lx, l2, io⟩)
      have so3 : so = 3 := by injection c1
      have hl2 : 2 ≤ xs.length := by omega
      refine ⟨_, rfl, _, rfl, p, _, rfl, .inl (SqL.of ep), h, q, _, rfl, by omega, by omega, h4, fun a H6 a0 a1 b6 h6 => ?_⟩
      have ep6 := b6 _ _ nhp.symm ep
      refine ⟨_, rfl, _, rfl, _, rfl, p, _, rfl, .inl (SqL.of ep6), h, q, _, rfl, by omega, by omega, h6, fun b H7 b0 b1' b7 h7 => ?_⟩
      have ep7 := b7 _ _ nhp.symm ep6
      refine ⟨p, xs, b, b.toNat, rfl, rfl, ep7, ixN_at b0 b1', ?_⟩
      refine ⟨p, _, _, rfl, ((b4.trans b6).trans b7).put2 hp, h7.put nhp nqp, hp, upd_same, by rw [List.length_set]; exact lx, .inr (by rw [List.length_set]; exact hl2), fun x hx => ?_⟩
      refine IOk.put ?_ ep7
      rcases List.mem_or_eq_of_mem_set hx with hx | rfl
      · exact ((io x hx).but h4 b6).but h6 b7
      · exact .inl rfl
    rintro σ6 H6 ⟨p, xs, v3, rfl, b6, h6, hp, ep, lx, l2, io⟩
    have nhp : h ≠ p := by
      intro e
      rw [e] at hh
      obtain ⟨cs, i, r, t, e1, _⟩ := hh
      rw [hp] at e1
      cases e1
    refine ⟨_, rfl, h, q, 2, rfl, by decide, by decide, h6, fun d H7 d0 d2 b7 h7 => ⟨rfl, _, rfl, ?_⟩⟩
    have ep7 := b7 _ _ nhp.symm ep
    refine ifD (fun c1 => ?_) (fun c1 => ?_)
    · refine ⟨_, rfl, k _ (.lst xs) H7 (b6.trans b7) h7 ⟨p, rfl, ep7⟩ ⟨fun x hx => (io x hx).but h6 b7, lx, fun p2 e2 => ?_⟩⟩
      injection e2 with e2
      rw [← e2]
      exact hp
    · refine ⟨_, rfl, p, xs, rfl, .inl ⟨SqL.of ep7, fun t ht => ?_⟩⟩
      refine k _ (.tup xs) _ ((b6.trans b7).trans (But.same (new_same ht))) (h7.new ht) ⟨t, rfl, upd_same⟩ ⟨fun x hx => ((io x hx).but h6 b7).keep (new_same ht), lx, fun p2 e2 => ?_⟩
      injection e2 with e2
      rw [← e2]
      cases e : H t with
      | none => rfl
      | some o =>
        have nth : t ≠ h := by
          obtain ⟨cs, i, r, tt, e1, _⟩ := h7
          exact (ne_of_none e1 ht).symm
        have := b7 _ _ nth (b6 _ _ nth e)
        rw [ht] at this
        cases this
end
end J

set_option Elab.async false
set_option linter.all false
set_option maxRecDepth 100000
set_option maxHeartbeats 4000000
namespace J
open PySem PySem.Spec PyProof.Rows L2
abbrev s_Lwhole : Stmt := top 23
theorem sc_Lwhole : FnScope ["_law_hand_here", "_law_low", "_law_high", "_law_number", "_law_thing_here"] ["_law_hand_here"] (defScope s_Lwhole) := ⟨rfl, rfl, rfl, by decide +kernel, rfl, by decide +kernel, by decide +kernel⟩
def spLw : Sp := fun vs H Q _ => ∃ (h q : Addr), vs = [.ref h] ∧ Hand H h q ∧ ∀ H', But h H H' → Q (.bl true) H'
theorem p12 : (10 : Int) ^ (12 : Int).toNat = 1000000000000 := by decide +kernel
theorem p6 : (10 : Int) ^ (6 : Int).toNat = 1000000 := by decide +kernel
theorem p9 : (10 : Int) ^ (9 : Int).toNat = 1000000000 := by decide +kernel
section
variable {P : Program} {w : World} {K : PySem.W.Frag} {mg : Str → Option Value} {base : Heap}
theorem ok_Lwhole {f fD fW fL fS : Addr} {fd fdD fdW fdL fdS : FuncData} (F : Fun K "_law_whole" "_law_whole" s_Lwhole f fd)
    (GD : Cal P w K mg base CX0 2 "_law_draw" fD fdD ["_law_hand_here", "_law_many"] spDraw) (GW : Cal P w K mg base CX0 1 "is_whole" fW fdW ["thing", "low", "high"] spWhole) (GL : Cal P w K mg base CX0 2 "is_label" fL fdL ["thing"] spLabel)
    (GS : Cal P w K mg base CX0 1 "_law_says" fS fdS ["_law_told", "_law_due_here"] spSays) : FnOk P w K mg base CX0 3 f fd ["_law_hand_here"] spLw := by
  refine F.ok sc_Lwhole (fun vs H Q E h => ?_) (fun cdv A outer s H vs Q E hr h => ?_)
  · obtain ⟨h, q, rfl, _⟩ := h
    rfl
  · obtain ⟨h, q, rfl, hh, k⟩ := h
    refine ⟨_, (pss_cons 
  (ps_set (i := 1) sc_Lwhole.nd rfl (Or.inl rfl) (pe_op op_sub (pcal GD hr pass0 (pa_cons (pv 0) (pa_cons (pe_op op_pow pe_int pe_int) pa_nil))) (pe_op op_mul pe_int (pe_op op_pow pe_int pe_int)))) (pss_cons 
  (ps_set (i := 2) sc_Lwhole.nd rfl (Or.inl rfl) (pe_op op_add (pv 1) (pcal GD hr pass0 (pa_cons (pv 0) (pa_cons (pe_op op_pow pe_int pe_int) pa_nil))))) (pss_cons 
  (ps_for PassesOwn.never rfl (pi_list (pe_lst (pa_cons (pe_op op_sub (pv 1) pe_int) (pa_cons (pv 1) (pa_cons (pe_op op_fdiv (pe_op op_add (pv 1) (pv 2)) pe_int) (pa_cons (pv 2) (pa_cons (pe_op op_add (pv 2) pe_int) pa_nil))))))) (pg_name (i := 3) sc_Lwhole.nd rfl (Or.inl rfl)) (pss_one 
    (ps_if (pt_not (pt_val (pcal GS hr pass0 (pa_cons (pcal GW hr pass0 (pa_cons (pv 3) (pa_cons (pv 1) (pa_cons (pv 2) pa_nil)))) (pa_cons (pe_and (pe_cmpR op_le (pv 1) (pv 3) (nomark _)) (pe_one (pe_cmpR op_le (pv 3) (pv 2) (nomark _)))) pa_nil))))) (pss_one 
      (ps_ret pe_bl)) pss_nil))) (pss_cons 
  (ps_for PassesOwn.never rfl (pi_list (pe_lst (pa_cons pe_non (pa_cons pe_str (pa_cons pe_bl (pa_cons pe_bl (pa_cons (pe_tup (pa_cons pe_int pa_nil)) (pa_cons (pe_lst (pa_cons pe_int pa_nil)) pa_nil)))))))) (pg_name (i := 4) sc_Lwhole.nd rfl (Or.inl rfl)) (pss_one 
    (ps_if (PW.pt (pw_or (pt_cmpR op_isnot_bl (pcal GW hr pass0 (pa_cons (pv 4) (pa_cons (pe_un un_neg pe_int) (pa_cons pe_int pa_nil)))) pe_bl (nomark _)) (pw_or1 (pt_cmpR op_isnot_bl (pcal GL hr pass0 (pa_cons (pv 4) pa_nil)) pe_bl (nomark _))))) (pss_one 
      (ps_ret pe_bl)) pss_nil))) (pss_cons 
  (ps_set (i := 3) sc_Lwhole.nd rfl (Or.inl rfl) (pcal GD hr pass0 (pa_cons (pv 0) (pa_cons (pe_op op_add (pe_op op_pow pe_int pe_int) pe_int) pa_nil)))) (pss_one 
  (ps_ret (pe_and (pe_cmpR (op_eqD hr.units) (pe_lst (pa_cons (pcal GL hr pass0 (pa_cons (pv 3) pa_nil)) (pa_cons (pcal GL hr pass0 (pa_cons pe_int pa_nil)) (pa_cons (pcal GL hr pass0 (pa_cons (pe_op op_pow pe_int pe_int) pa_nil)) pa_nil)))) (pe_lst (pa_cons pe_bl (pa_cons pe_bl (pa_cons pe_bl pa_nil)))) (nomark _)) (pe_and (pe_not (pcal GL hr pass0 (pa_cons (pe_un un_neg pe_int) pa_nil))) (pe_one (pe_not (pcal GL hr pass0 (pa_cons (pe_op op_add (pe_op op_pow pe_int pe_int) pe_int) pa_nil))))))))))))), ?_⟩
    refine ⟨_, rfl, _, _, rfl, rfl, ⟨by decide, by decide, by decide⟩, h, q, _, rfl, by rw [p12]; decide, by rw [p12]; decide, hh, fun v H1 v0 v1 b1 h1 => ?_⟩
    refine ⟨_, _, rfl, rfl, ⟨by decide, by decide, by decide⟩, _, _, rfl, rfl, .inl ⟨by decide, by decide⟩, _, _, rfl, rfl, ?_⟩
    refine ⟨_, rfl, _, rfl, _, _, rfl, rfl, ⟨by decide, by decide, by decide⟩, h, q, _, rfl, by rw [p6]; decide, by rw [p6]; decide, h1, fun u H2 u0 u1 b2 h2 => ?_⟩
    refine ⟨_, _, rfl, rfl, ?_⟩
    have B2 := b1.trans b2
    refine ⟨_, rfl, _, _, rfl, rfl, _, rfl, _, rfl, _, rfl, _, _, rfl, rfl, _, _, rfl, rfl, ⟨by decide, by decide⟩, _, rfl, _, rfl, _, _, rfl, rfl, (by show 5 ≤ sizeLine; decide), fun p hp => ?_⟩
    have ep : (upd H2 p (.lst (([(v - 5 * 10 ^ (11 : Int).toNat) - 1, (v - 5 * 10 ^ (11 : Int).toNat), ((v - 5 * 10 ^ (11 : Int).toNat) + (v - 5 * 10 ^ (11 : Int).toNat + u)) / 2, (v - 5 * 10 ^ (11 : Int).toNat + u), (v - 5 * 10 ^ (11 : Int).toNat + u) + 1] : List Int).map V.int))) p = some (.lst (([(v - 5 * 10 ^ (11 : Int).toNat) - 1, (v - 5 * 10 ^ (11 : Int).toNat), ((v - 5 * 10 ^ (11 : Int).toNat) + (v - 5 * 10 ^ (11 : Int).toNat + u)) / 2, (v - 5 * 10 ^ (11 : Int).toNat + u), (v - 5 * 10 ^ (11 : Int).toNat + u) + 1] : List Int).map V.int)) := upd_same
    have h3 := h2.new (o := .lst (([(v - 5 * 10 ^ (11 : Int).toNat) - 1, (v - 5 * 10 ^ (11 : Int).toNat), ((v - 5 * 10 ^ (11 : Int).toNat) + (v - 5 * 10 ^ (11 : Int).toNat + u)) / 2, (v - 5 * 10 ^ (11 : Int).toNat + u), (v - 5 * 10 ^ (11 : Int).toNat + u) + 1] : List Int).map V.int)) hp
    have B3 : But h H (upd H2 p (.lst (([(v - 5 * 10 ^ (11 : Int).toNat) - 1, (v - 5 * 10 ^ (11 : Int).toNat), ((v - 5 * 10 ^ (11 : Int).toNat) + (v - 5 * 10 ^ (11 : Int).toNat + u)) / 2, (v - 5 * 10 ^ (11 : Int).toNat + u), (v - 5 * 10 ^ (11 : Int).toNat + u) + 1] : List Int).map V.int))) := B2.trans (But.same (new_same hp))
    refine ⟨p, rfl, ⟨_, SqL.of ep⟩, for_list (K := K) (a := p) (xs := ([(v - 5 * 10 ^ (11 : Int).toNat) - 1, (v - 5 * 10 ^ (11 : Int).toNat), ((v - 5 * 10 ^ (11 : Int).toNat) + (v - 5 * 10 ^ (11 : Int).toNat + u)) / 2, (v - 5 * 10 ^ (11 : Int).toNat + u), (v - 5 * 10 ^ (11 : Int).toNat + u) + 1] : List Int).map V.int) (fun i σ H' => ∃ v3 : Option V, σ = [some (.ref h), some (.int (v - 5 * 10 ^ (11 : Int).toNat)), some (.int (v - 5 * 10 ^ (11 : Int).toNat + u)), v3, none] ∧ H' = upd H2 p (.lst (([(v - 5 * 10 ^ (11 : Int).toNat) - 1, (v - 5 * 10 ^ (11 : Int).toNat), ((v - 5 * 10 ^ (11 : Int).toNat) + (v - 5 * 10 ^ (11 : Int).toNat + u)) / 2, (v - 5 * 10 ^ (11 : Int).toNat + u), (v - 5 * 10 ^ (11 : Int).toNat + u) + 1] : List Int).map V.int)))
      ⟨none, rfl, rfl⟩ (fun i σ H' _ ⟨_, _, e⟩ => by rw [e]; exact SqL.of ep) ?_ ?_⟩
    · rintro i x σ H' hx ⟨v3, rfl, rfl⟩
      obtain ⟨n, _, rfl⟩ := List.mem_map.mp (List.mem_of_getElem? hx)
      refine ⟨_, rfl, _, rfl, _, rfl, .int n, .sc (.int n), (v - 5 * 10 ^ (11 : Int).toNat), (v - 5 * 10 ^ (11 : Int).toNat + u), rfl, ⟨rfl, rfl⟩, ?_⟩
      refine ⟨_, rfl, _, rfl, _, _, rfl, rfl, _, rfl, ?_⟩
      refine ifD (fun c => ?_) (fun c => ?_)
      · refine ⟨_, rfl, _, rfl, _, _, rfl, rfl, _, _, rfl, _, rfl, if_fa ?_ ⟨_, rfl, rfl⟩⟩
        have e : wholeB (.int n) (v - 5 * 10 ^ (11 : Int).toNat) (v - 5 * 10 ^ (11 : Int).toNat + u) = decide (n ≤ (v - 5 * 10 ^ (11 : Int).toNat + u)) := by
          show (decide ((v - 5 * 10 ^ (11 : Int).toNat) ≤ n) && decide (n ≤ (v - 5 * 10 ^ (11 : Int).toNat + u))) = _
          rw [decide_eq_true c, Bool.true_and]
        rw [e]
        simp
      · refine ⟨_, _, rfl, _, rfl, if_fa ?_ ⟨_, rfl, rfl⟩⟩
        rw [whole_lo c]
        rfl
    rintro σ H' ⟨v3, rfl, rfl⟩
    generalize upd H2 p (.lst (([(v - 5 * 10 ^ (11 : Int).toNat) - 1, (v - 5 * 10 ^ (11 : Int).toNat), ((v - 5 * 10 ^ (11 : Int).toNat) + (v - 5 * 10 ^ (11 : Int).toNat + u)) / 2, (v - 5 * 10 ^ (11 : Int).toNat + u), (v - 5 * 10 ^ (11 : Int).toNat + u) + 1] : List Int).map V.int)) = H3 at h3 B3
    refine ⟨(by show 1 ≤ sizeLine; decide), fun z1 hz1 => ⟨(by show 1 ≤ sizeLine; decide), fun z2 hz2 => ⟨(by show 6 ≤ sizeLine; decide), fun l hl => ?_⟩⟩⟩
    have S3 : Same H3 (upd (upd (upd H3 z1 (.tup [.int 1])) z2 (.lst [.int 0])) l (.lst [.non, .str "1", .bl true, .bl false, .ref z1, .ref z2])) := ((new_same hz1).trans (new_same hz2)).trans (new_same hl)
    have h4 := h3.keep S3
    have B4 := B3.trans (But.same S3)
    have el : (upd (upd (upd H3 z1 (.tup [.int 1])) z2 (.lst [.int 0])) l (.lst [.non, .str "1", .bl true, .bl false, .ref z1, .ref z2])) l = some (.lst [.non, .str "1", .bl true, .bl false, .ref z1, .ref z2]) := upd_same
    have all : ∀ y ∈ ([.non, .str "1", .bl true, .bl false, .ref z1, .ref z2] : List V), ∃ s, Is (upd (upd (upd H3 z1 (.tup [.int 1])) z2 (.lst [.int 0])) l (.lst [.non, .str "1", .bl true, .bl false, .ref z1, .ref z2])) y s ∧ ∀ aa bb, wholeB y aa bb = false := fun y hy => by
      simp only [List.mem_cons, List.not_mem_nil, or_false] at hy
      rcases hy with rfl | rfl | rfl | rfl | rfl | rfl
      · exact ⟨.sc .non, ⟨rfl, rfl⟩, fun _ _ => rfl⟩
      · exact ⟨.sc _, ⟨rfl, rfl⟩, fun _ _ => rfl⟩
      · exact ⟨.sc _, ⟨rfl, rfl⟩, fun _ _ => rfl⟩
      · exact ⟨.sc _, ⟨rfl, rfl⟩, fun _ _ => rfl⟩
      · exact ⟨.tup [.int 1], ⟨z1, rfl, new_same hl _ _ (new_same hz2 _ _ upd_same)⟩, fun _ _ => rfl⟩
      · exact ⟨.lst [.int 0], ⟨z2, rfl, new_same hl _ _ upd_same⟩, fun _ _ => rfl⟩
    refine ⟨l, rfl, ⟨_, SqL.of el⟩, for_list (K := K) (a := l) (xs := [.non, .str "1", .bl true, .bl false, .ref z1, .ref z2]) (fun i σ H' => ∃ v3 v4 : Option V, σ = [some (.ref h), some (.int (v - 5 * 10 ^ (11 : Int).toNat)), some (.int (v - 5 * 10 ^ (11 : Int).toNat + u)), v3, v4] ∧ H' = upd (upd (upd H3 z1 (.tup [.int 1])) z2 (.lst [.int 0])) l (.lst [.non, .str "1", .bl true, .bl false, .ref z1, .ref z2]))
      ⟨_, none, rfl, rfl⟩ (fun i σ H' _ ⟨_, _, _, e⟩ => by rw [e]; exact SqL.of el) ?_ ?_⟩
    · rintro i y σ H' hy ⟨v3, v4, rfl, rfl⟩
      obtain ⟨sy, isy, no⟩ := all y (List.mem_of_getElem? hy)
      refine ⟨_, rfl, _, rfl, y, sy, -5, 5, rfl, isy, _, _, rfl, rfl, _, rfl, if_fa (by rw [no]; rfl) ?_⟩
      refine ⟨_, rfl, y, sy, rfl, isy, _, _, rfl, rfl, _, rfl, if_fa (by rw [no]; rfl) ⟨_, _, rfl, rfl⟩⟩
    rintro σ H' ⟨v3, v4, rfl, rfl⟩
    generalize upd (upd (upd H3 z1 (.tup [.int 1])) z2 (.lst [.int 0])) l (.lst [.non, .str "1", .bl true, .bl false, .ref z1, .ref z2]) = H4 at h4 B4
    refine ⟨_, rfl, _, _, rfl, rfl, ⟨by decide, by decide, by decide⟩, _, _, rfl, rfl, h, q, _, rfl, by rw [p9]; decide, by rw [p9]; decide, h4, fun n H5 n0 n1 b5 h5 => ?_⟩
    rw [p9] at n1
    refine ⟨_, rfl, .int n, .sc _, rfl, ⟨rfl, rfl⟩, .int 0, .sc _, rfl, ⟨rfl, rfl⟩, _, _, rfl, rfl, ⟨by decide, by decide, by decide⟩, .int _, .sc _, rfl, ⟨rfl, rfl⟩, (by show 3 ≤ sizeLine; decide), fun a ha => ⟨(by show 3 ≤ sizeLine; decide), fun b hb => ?_⟩⟩
    have w1 : wholeB (.int n) 0 1000000000 = true := whole_of n0 (by omega)
    have w2 : wholeB (.int 0) 0 1000000000 = true := by decide
    have w3 : wholeB (.int (10 ^ (9 : Int).toNat)) 0 1000000000 = true := by rw [p9]; decide
    rw [w1, w2, w3] at hb ⊢
    have S5 : Same H5 (upd (upd H5 a (.lst [.bl true, .bl true, .bl true])) b (.lst [.bl true, .bl true, .bl true])) := (new_same ha).trans (new_same hb)
    refine ⟨.list [.bool true, .bool true, .bool true], .list [.bool true, .bool true, .bool true], .lst (SqL.of (new_same hb _ _ upd_same)) (.cons (.bl _) (.cons (.bl _) (.cons (.bl _) .nil))), .lst (SqL.of upd_same) (.cons (.bl _) (.cons (.bl _) (.cons (.bl _) .nil))), by decide +kernel, by decide +kernel, _, rfl, if_tr (by decide +kernel) ?_⟩
    refine ⟨_, rfl, .int _, .sc _, rfl, ⟨rfl, rfl⟩, _, rfl, _, rfl, if_tr (by decide) ?_⟩
    refine ⟨_, _, rfl, rfl, ⟨by decide, by decide, by decide⟩, _, _, rfl, rfl, .int _, .sc _, rfl, ⟨rfl, rfl⟩, _, rfl, ?_⟩
    have w4 : wholeB (.int (10 ^ (9 : Int).toNat + 1)) 0 1000000000 = false := by rw [p9]; decide
    rw [w4]
    exact k _ ((B4.trans b5).trans (But.same S5))
end
end J

set_option Elab.async false
set_option linter.all false
set_option maxRecDepth 100000
set_option maxHeartbeats 4000000
namespace J
open PySem PySem.Spec PyProof.Rows L2
abbrev s_law : Stmt := top 24
theorem sc_law : FnScope ["_law_script", "_law_hand_here", "_law_made_here", "_law_turn", "_law_thing_here", "_law_kept", "_law_due_here", "_law_ties", "_law_word", "_law_backs_here", "_law_one", "_law_row", "_law_other", "_law_line"] ["_law_script"] (defScope s_law) := ⟨rfl, rfl, rfl, by decide +kernel, rfl, by decide +kernel, by decide +kernel⟩
def spLaw (K : PySem.W.Frag) : Sp := fun vs H Q _ => ∃ (a : Addr) (ns : List Int), vs = [.ref a] ∧ SqL K H a (ns.map V.int) ∧ ns.length ≤ 63 ∧ ∀ H', Q (.bl true) H'
/-- a pair that was noted: a Ties, its row -/
def Pr (C h ml : Addr) (H : Hp) (y : V) : Prop := ∃ (T x l : Addr) (ns : List Int), y = .ref T ∧ H T = some (.tup [.ref x, .ref l]) ∧ TiesAt C H x ns ∧ H l = some (.lst (ns.map V.int)) ∧ GoodB ns ∧ l ≠ h ∧ l ≠ ml
theorem Pr.keep {C h ml : Addr} {H H' : Hp} {y : V} (p : Pr C h ml H y) (S : Same H H') : Pr C h ml H' y := by
  obtain ⟨T, x, l, ns, e, a, b, c, d⟩ := p
  exact ⟨T, x, l, ns, e, S _ _ a, b.keep S, S _ _ c, d⟩
theorem Pr.but {C h ml : Addr} {H H' : Hp} {y : V} {us ws : List V} (p : Pr C h ml H y) (e1 : H h = some (.lst us)) (e2 : H ml = some (.lst ws)) (B : ∀ b o, b ≠ h → b ≠ ml → H b = some o → H' b = some o) : Pr C h ml H' y := by
  obtain ⟨T, x, l, ns, e, a, ⟨dx, t, b1, b2⟩, c, d, n1, n2⟩ := p
  have k1 : ∀ {b : Addr} {zs : List V}, H b = some (.tup zs) → H' b = some (.tup zs) := fun {b zs} eb => B _ _ (ne_of eb e1 (by intro z; cases z)) (ne_of eb e2 (by intro z; cases z)) eb
  exact ⟨T, x, l, ns, e, k1 a, ⟨dx, t, B _ _ (ne_of b1 e1 (by intro z; cases z)) (ne_of b1 e2 (by intro z; cases z)) b1, k1 b2⟩, B _ _ n1 n2 c, d, n1, n2⟩
theorem But.fresh {h p : Addr} {H H' : Hp} (B : But h H H') (n : p ≠ h) (e : H' p = none) : H p = none := by
  cases q : H p with
  | none => rfl
  | some o =>
    have := B _ _ n q
    rw [e] at this
    cases this
theorem Hand.at_ {H : Hp} {h q : Addr} (x : Hand H h q) : ∃ us, H h = some (.lst us) := by
  obtain ⟨cs, i, r, t, e, _⟩ := x
  exact ⟨_, e⟩
/-- a thing's items as data -/
theorem items_dp {K : PySem.W.Frag} {H : Hp} : ∀ {xs : List V}, (∀ x ∈ xs, IOk H x) → ∃ ds, DpAll K H xs ds ∧ PyData.canLayAll0 ds = true ∧ PyData.depthAll ds ≤ 2
  | [], _ => ⟨[], .nil, by simp [PyData.canLayAll0], by simp [PyData.depthAll]⟩
  | x :: xs, h => by
    obtain ⟨ds, a, b, c⟩ := items_dp (K := K) (xs := xs) fun y hy => h y (List.mem_cons_of_mem _ hy)
    have one : ∃ d, Dp K H x d ∧ d.canLay0 = true ∧ d.depth ≤ 2 := by
      rcases h x List.mem_cons_self with i | ⟨z, rfl, e⟩
      · cases x with
        | non => exact ⟨_, .non, by simp [PyData.canLay0], by simp [PyData.depth]⟩
        | bl b => exact ⟨_, .bl b, by simp [PyData.canLay0], by simp [PyData.depth]⟩
        | int b => exact ⟨_, .int b, by simp [PyData.canLay0], by simp [PyData.depth]⟩
        | str b => exact ⟨_, .str b, by simp only [PyData.canLay0]; exact i, by simp [PyData.depth]⟩
        | byt b => cases i
        | flt b => cases i
        | ref b => cases i
        | ty b => cases i
      · exact ⟨.tuple [.int 0], .tup (SqT.of e) (.cons (.int 0) .nil), by simp [PyData.canLay0, PyData.canLayAll0], by simp [PyData.depth, PyData.depthAll]⟩
    obtain ⟨d, a1, b1, c1⟩ := one
    refine ⟨d :: ds, .cons a1 a, by simp only [PyData.canLayAll0, b1, b, Bool.and_self], ?_⟩
    simp only [PyData.depthAll]
    omega
theorem shaped_l {ds : List PyData} (b : PyData.canLayAll0 ds = true) (c : PyData.depthAll ds ≤ 2) : SeqAt.shaped (.list ds) = true := by
  show (PyData.canLay0 (.list ds) && decide (PyData.depth (.list ds) ≤ 64)) = true
  rw [Bool.and_eq_true]
  refine ⟨by simp only [PyData.canLay0]; exact b, decide_eq_true ?_⟩
  simp only [PyData.depth]
  omega
theorem eqv_l {ds : List PyData} (b : PyData.canLayAll0 ds = true) : PyData.eqv (.list ds) (.list ds) = true := by
  simp only [PyData.eqv]
  exact SeqAt.eqvAll_refl ds b
theorem known_of {H : Hp} {xs : List V} (h : ∀ x ∈ xs, IOk H x) : Known H xs := fun x hx => (h x hx).is
theorem wordV_scal (o : Option Str) : scal (wordV o) (wordV o) = true := by cases o <;> rfl
section
variable {P : Program} {w : World} {K : PySem.W.Frag} {mg : Str → Option Value} {base : Heap}
theorem ok_law {f C CB fI fH fT fU fM fR fK fD fS fE fW : Addr} {fd fdI fdH fdT fdU fdM fdR fdK fdD fdS fdE fdW : FuncData} (F : Fun K "law" "law" s_law f fd) (T : TiX K mg C) (nis : mg "isinstance" = none) (nli : mg "list" = none) (nt : mg "tuple" = none) (nr : mg "range" = none)
    (mM : ∃ t, mg "MOST_TIES" = some (.int 4 t)) (mL : ∃ t, mg "MOST_LABEL" = some (.int 1000000000 t))
    (M : Mk K C fI) (FI : FnOk P w K mg base (L2.CX P w) 4 fI fdI ["self", "backs"] (spTies C CB)) (bI : Binds K fdI ["self", "backs"] [])
    (GH : Cal P w K mg base CX0 1 "_law_hand" fH fdH ["_law_script"] (spHand K)) (GT : Cal P w K mg base CX0 4 "_law_thing" fT fdT ["_law_hand_here"] spThing) (GU : Cal P w K mg base CX0 1 "_law_due" fU fdU ["_law_thing_here"] spDue)
    (GM : Cal P w K mg base CX0 6 "_law_made" fM fdM ["_law_thing_here"] (spMade C)) (GR : Cal P w K mg base CX0 6 "_law_right" fR fdR ["_law_ties", "_law_backs_here"] (spRight C)) (GK : Cal P w K mg base CX0 3 "_law_backs" fK fdK ["_law_hand_here", "_law_many"] spBacks)
    (GD : Cal P w K mg base CX0 2 "_law_draw" fD fdD ["_law_hand_here", "_law_many"] spDraw) (GS : Cal P w K mg base CX0 1 "_law_says" fS fdS ["_law_told", "_law_due_here"] spSays)
    (FE : FnOk P w K mg base CX0 1 fE fdE ["self", "other"] (spTEq C)) (hE : PySem.W.findIn K (.ref C) "__eq__" = some (some (.ref fE))) (fE : PySem.W.isFn K (.ref fE) = true) (bE : Binds K fdE ["self", "other"] [])
    (GW : Cal P w K mg base CX0 3 "_law_whole" fW fdW ["_law_hand_here"] spLw) : FnOk P w K mg base CX0 7 f fd ["_law_script"] (spLaw K) := by
  obtain ⟨tM, mM⟩ := mM
  obtain ⟨tL, mL⟩ := mL
  refine F.ok sc_law (fun vs H Q E h => ?_) (fun cdv A outer s H vs Q E hr h => ?_)
  · obtain ⟨a, ns, rfl, _⟩ := h
    rfl
  · obtain ⟨a, ns, rfl, hS, hn, k⟩ := h
    have hr5 : Room 5 _ := hr.mono (by decide)
    have hr1 : Room 1 _ := hr.mono (by decide)
    refine ⟨_, (pss_cons 
  (ps_set (i := 1) sc_law.nd rfl (Or.inl rfl) (pcal GH hr pass0 (pa_cons (pv 0) pa_nil))) (pss_cons 
  (ps_set (i := 2) sc_law.nd rfl (Or.inl rfl) (pe_lst pa_nil)) (pss_cons 
  (ps_for PassesOwn.never rfl (pi_range1 (by rfl) nr (pa_cons pe_int pa_nil)) (pg_name (i := 3) sc_law.nd rfl (Or.inl rfl)) (pss_cons 
    (ps_set (i := 4) sc_law.nd rfl (Or.inl rfl) (pcal GT hr pass0 (pa_cons (pv 1) pa_nil))) (pss_cons 
    (ps_set (i := 5) sc_law.nd rfl (Or.inl rfl) (pe_ifExp (pt_val (pe_callB call_isiT (by rfl) nis (by decide +kernel) (pa_cons (pv 4) (pa_cons (pe_tup (pa_cons (pe_bltn (by rfl) nli (by decide +kernel) (v := .ty "list") rfl) (pa_cons (pe_bltn (by rfl) nt (by decide +kernel) (v := .ty "tuple") rfl) pa_nil))) pa_nil)))) (pe_callTy call_list_of (by rfl) nli (by decide +kernel) (pa_cons (pv 4) pa_nil)) (pv 4))) (pss_cons 
    (ps_set (i := 6) sc_law.nd rfl (Or.inl rfl) (pcal GU hr pass0 (pa_cons (pv 4) pa_nil))) (pss_cons 
    (ps_asg (pcal GM hr pass0 (pa_cons (pv 4) pa_nil)) (pg_tup (by rfl) (pgs_cons (pg_name (i := 7) sc_law.nd rfl (Or.inl rfl)) (pgs_cons (pg_name (i := 8) sc_law.nd rfl (Or.inl rfl)) pgs_nil)))) (pss_cons 
    (ps_if (pt_cmpR op_ne (pv 8) (pv 6) (nomark _)) (pss_one 
      (ps_ret pe_bl)) pss_nil) (pss_cons 
    (ps_if (PW.pt (pw_and (pt_val (pe_callB call_isiT (by rfl) nis (by decide +kernel) (pa_cons (pv 4) (pa_cons (pe_tup (pa_cons (pe_bltn (by rfl) nli (by decide +kernel) (v := .ty "list") rfl) (pa_cons (pe_bltn (by rfl) nt (by decide +kernel) (v := .ty "tuple") rfl) pa_nil))) pa_nil)))) (pw_and1 (pt_cmpR (op_neD hr.units) (pe_callTy call_list_of (by rfl) nli (by decide +kernel) (pa_cons (pv 4) pa_nil)) (pv 5) (nomark _))))) (pss_one 
      (ps_ret pe_bl)) pss_nil) (pss_one 
    (ps_if (pt_cmpR op_isN (pv 6) pe_non (nomark _)) (pss_cons 
      (ps_if (pt_not (pt_val (pcal GR hr pass0 (pa_cons (pv 7) (pa_cons (pv 5) pa_nil))))) (pss_one 
        (ps_ret pe_bl)) pss_nil) (pss_cons 
      (ps_if (pt_val (pe_callB call_isi (by rfl) nis (by decide +kernel) (pa_cons (pv 4) (pa_cons (pe_bltn (by rfl) nli (by decide +kernel) (v := .ty "list") rfl) pa_nil)))) (pss_one 
        (ps_asg pe_int (pg_sub (pv 4) pe_int set_list))) pss_nil) (pss_cons 
      (ps_if (pt_not (pt_val (pcal GR hr pass0 (pa_cons (pv 7) (pa_cons (pv 5) pa_nil))))) (pss_one 
        (ps_ret pe_bl)) pss_nil) (pss_one 
      (ps_expr (pe_bm PySem.F.plainAttrs_list PySem.F.slot_list_append PySem.F.type_list_append mt_append (pv 2) (pa_cons (pe_tup (pa_cons (pv 7) (pa_cons (pv 5) pa_nil))) pa_nil))))))) pss_nil))))))))) (pss_cons 
  (ps_set (i := 9) sc_law.nd rfl (Or.inl rfl) (pcal GK hr pass0 (pa_cons (pv 1) (pa_cons (pe_op op_add pe_int (pcal GD hr pass0 (pa_cons (pv 1) (pa_cons pe_int pa_nil)))) pa_nil)))) (pss_cons 
  (ps_expr (pe_bm PySem.F.plainAttrs_list PySem.F.slot_list_append PySem.F.type_list_append mt_append (pv 2) (pa_cons (pe_tup (pa_cons (pe_make M FI hr5 rfl T.mT bI .nil passL (pa_cons (pe_callTy call_list_of (by rfl) nli (by decide +kernel) (pa_cons (pv 9) pa_nil)) pa_nil)) (pa_cons (pv 9) pa_nil))) pa_nil))) (pss_cons 
  (ps_for PassesOwn.never rfl (pi_list (pv 2)) (pg_tup (by rfl) (pgs_cons (pg_name (i := 10) sc_law.nd rfl (Or.inl rfl)) (pgs_cons (pg_name (i := 11) sc_law.nd rfl (Or.inl rfl)) pgs_nil))) (pss_cons 
    (ps_for PassesOwn.never rfl (pi_list (pv 2)) (pg_tup (by rfl) (pgs_cons (pg_name (i := 12) sc_law.nd rfl (Or.inl rfl)) (pgs_cons (pg_name (i := 13) sc_law.nd rfl (Or.inl rfl)) pgs_nil))) (pss_one 
      (ps_if (PW.pt (pw_or (pt_not (pt_val (pcal GS hr pass0 (pa_cons (pe_cmpR (op_eqOwn FE hE fE bE pass0 hr1 T.nf) (pv 10) (pv 12) (nomark _)) (pa_cons (pe_cmpR (op_eqD hr.units) (pv 11) (pv 13) (nomark _)) pa_nil))))) (pw_or1 (pt_not (pt_val (pcal GR hr pass0 (pa_cons (pv 12) (pa_cons (pv 13) pa_nil)))))))) (pss_one 
        (ps_ret pe_bl)) pss_nil))) (pss_one 
    (ps_if (pt_cmpR (op_eqOwn FE hE fE bE pass0 hr1 T.nf) (pv 10) (pe_callTy call_tuple_of (by rfl) nt (by decide +kernel) (pa_cons (pv 11) pa_nil)) (nomark _)) (pss_one 
      (ps_ret pe_bl)) pss_nil)))) (pss_one 
  (ps_ret (pe_and (pcal GW hr pass0 (pa_cons (pv 1) pa_nil)) (pe_and (pe_cmpR op_eq (pe_glob (v := .int 4) rfl mM ⟨_, rfl⟩) pe_int (nomark _)) (pe_one (pe_cmpR op_eq (pe_glob (v := .int 1000000000) rfl mL ⟨_, rfl⟩) (pe_op op_pow pe_int pe_int) (nomark _))))))))))))), ?_⟩
    refine ⟨_, rfl, a, ns, rfl, hS, hn, fun Ha h q S0 hh0 hq0 hh => ?_⟩
    refine ⟨Nat.zero_le _, fun ml hml => ?_⟩
    obtain ⟨nhm, nqm⟩ := hh.h_ne hml
    refine ⟨3, rfl, by decide, by decide, for_range (lo := 0) (n := 3) (fun i σ H' => ∃ (v3 v4 v5 v6 v7 v8 : Option V) (ys : List V), σ = [some (.ref a), some (.ref h), some (.ref ml), v3, v4, v5, v6, v7, v8, none, none, none, none, none] ∧ Hand H' h q ∧ H' ml = some (.lst ys) ∧ ys.length ≤ i ∧ ∀ y ∈ ys, Pr C h ml H' y)
      ⟨none, none, none, none, none, none, [], rfl, hh.new hml, upd_same, Nat.zero_le _, (fun y hy => nomatch hy)⟩ ?_ ?_⟩
    · clear hh
      rintro i σ G0 hi ⟨v3, v4, v5, v6, v7, v8, ys, rfl, hh, em, ly, prs⟩
      refine ⟨_, rfl, h, q, rfl, hh, fun v sh H1 b1 h1 hv ok => ?_⟩
      have fin : ∀ (H' : Hp), But h G0 H' → Hand H' h q → Hand H' h q ∧ H' ml = some (.lst ys) ∧ ys.length ≤ i + 1 ∧ ∀ y ∈ ys, Pr C h ml H' y := fun H' b g => ⟨g, b _ _ nhm.symm em, by omega, fun y hy => by
        obtain ⟨us0, eh0⟩ := hh.at_
        exact (prs y hy).but eh0 em fun b' o n1 _ e => b b' o n1 e⟩
      cases sh
      case sc u =>
        -- no sequence
        refine ⟨_, rfl, (by show 2 ≤ sizeLine; decide), fun p2 hp2 => ?_⟩
        obtain ⟨t2, ht2, kk⟩ := is_new (K := K) (s := (.sc u)) hv hp2
        refine ⟨_, _, _, _, _, _, rfl, upd_same, .cons (.ty "list") (.cons (.ty "tuple") .nil), ht2, kk, _, rfl, iteF ⟨_, rfl, ?_⟩⟩
        have S2 : Same H1 (upd H1 p2 (.tup [.ty "list", .ty "tuple"])) := new_same hp2
        generalize upd H1 p2 (.tup [.ty "list", .ty "tuple"]) = H2 at S2
        refine ⟨_, rfl, v, (.sc u), rfl, hv.keep S2, (fun x hx => nomatch hx), fun H3 S3 => ?_⟩
        have hv3 := (hv.keep S2).keep S3
        refine ⟨_, rfl, v, (.sc u), rfl, hv3, (fun x hx => nomatch hx), fun u hu p H4 S4 hp e4 => ?_, fun ns hd => nomatch hd⟩
        obtain rfl : u = ("row" : Str) := (Option.some.inj hu).symm
        refine ⟨p, _, rfl, SqT.of e4, rfl, _, _, rfl, _, _, rfl, rfl, ?_⟩
        refine ⟨_, rfl, _, rfl, rfl, _, rfl, if_fa (by show (!decide (V.str ("row" : Str) = V.str ("row" : Str))) = false; simp) ?_⟩
        refine ⟨_, rfl, (by show 2 ≤ sizeLine; decide), fun p5 hp5 => ?_⟩
        obtain ⟨t5, ht5, kk5⟩ := is_new (K := K) (s := (.sc u)) (hv3.keep S4) hp5
        refine ⟨_, _, _, _, _, _, rfl, upd_same, .cons (.ty "list") (.cons (.ty "tuple") .nil), ht5, kk5, _, rfl, iteF (iteF ?_)⟩
        refine ⟨_, rfl, rfl, _, rfl, if_fa (by show decide (V.str ("row" : Str) = V.non) = false; simp) ?_⟩
        have Sall := ((S2.trans S3).trans S4).trans (new_same hp5 (o := .tup [.ty "list", .ty "tuple"]))
        exact ⟨_, _, _, _, _, _, ys, rfl, fin _ (b1.trans (But.same Sall)) (h1.keep Sall)⟩
      case dk =>
        -- no sequence
        refine ⟨_, rfl, (by show 2 ≤ sizeLine; decide), fun p2 hp2 => ?_⟩
        obtain ⟨t2, ht2, kk⟩ := is_new (K := K) (s := .dk) hv hp2
        refine ⟨_, _, _, _, _, _, rfl, upd_same, .cons (.ty "list") (.cons (.ty "tuple") .nil), ht2, kk, _, rfl, iteF ⟨_, rfl, ?_⟩⟩
        have S2 : Same H1 (upd H1 p2 (.tup [.ty "list", .ty "tuple"])) := new_same hp2
        generalize upd H1 p2 (.tup [.ty "list", .ty "tuple"]) = H2 at S2
        refine ⟨_, rfl, v, .dk, rfl, hv.keep S2, (fun x hx => nomatch hx), fun H3 S3 => ?_⟩
        have hv3 := (hv.keep S2).keep S3
        refine ⟨_, rfl, v, .dk, rfl, hv3, (fun x hx => nomatch hx), fun u hu p H4 S4 hp e4 => ?_, fun ns hd => nomatch hd⟩
        obtain rfl : u = ("row" : Str) := (Option.some.inj hu).symm
        refine ⟨p, _, rfl, SqT.of e4, rfl, _, _, rfl, _, _, rfl, rfl, ?_⟩
        refine ⟨_, rfl, _, rfl, rfl, _, rfl, if_fa (by show (!decide (V.str ("row" : Str) = V.str ("row" : Str))) = false; simp) ?_⟩
        refine ⟨_, rfl, (by show 2 ≤ sizeLine; decide), fun p5 hp5 => ?_⟩
        obtain ⟨t5, ht5, kk5⟩ := is_new (K := K) (s := .dk) (hv3.keep S4) hp5
        refine ⟨_, _, _, _, _, _, rfl, upd_same, .cons (.ty "list") (.cons (.ty "tuple") .nil), ht5, kk5, _, rfl, iteF (iteF ?_)⟩
        refine ⟨_, rfl, rfl, _, rfl, if_fa (by show decide (V.str ("row" : Str) = V.non) = false; simp) ?_⟩
        have Sall := ((S2.trans S3).trans S4).trans (new_same hp5 (o := .tup [.ty "list", .ty "tuple"]))
        exact ⟨_, _, _, _, _, _, ys, rfl, fin _ (b1.trans (But.same Sall)) (h1.keep Sall)⟩
      case lst xs =>
        obtain ⟨p, rfl, hp⟩ := hv
        have hv : Is H1 (.ref p) (.lst xs) := ⟨p, rfl, hp⟩
        have p0 : G0 p = none := ok.new p rfl
        refine ⟨_, rfl, (by show 2 ≤ sizeLine; decide), fun p2 hp2 => ?_⟩
        obtain ⟨t2, ht2, kk⟩ := is_new (K := K) (s := .lst xs) hv hp2
        refine ⟨_, _, _, _, _, _, rfl, upd_same, .cons (.ty "list") (.cons (.ty "tuple") .nil), ht2, kk, _, rfl, iteT ?_⟩
        have S2 : Same H1 (upd H1 p2 (.tup [.ty "list", .ty "tuple"])) := new_same hp2
        generalize upd H1 p2 (.tup [.ty "list", .ty "tuple"]) = H2 at S2
        refine ⟨_, rfl, p, xs, rfl, .inl (SqL.of (S2 _ _ hp)), fun l hl => ?_⟩
        have S2' : Same H1 (upd H2 l (.lst xs)) := S2.trans (new_same hl)
        have el : (upd H2 l (.lst xs)) l = some (.lst xs) := upd_same
        have l1 : H1 l = none := S2.free hl
        generalize upd H2 l (.lst xs) = H3 at S2' el
        have nlp : p ≠ l := ne_of_none hp l1
        have nlh : l ≠ h := (h1.h_ne l1).1.symm
        have nlm : l ≠ ml := by
          have := b1 _ _ nhm.symm em
          exact (ne_of_none this l1).symm
        refine ⟨_, rfl, _, .lst xs, rfl, hv.keep S2', (known_of ok.it).keep S2', fun H4 S4 => ?_⟩
        have S14 := S2'.trans S4
        refine ⟨_, rfl, _, .lst xs, rfl, hv.keep S14, (known_of ok.it).keep S14, fun u hu pt H5 S5 hpt e5 => ?_, fun ns hd hns pt x H5 S5 hpt hx0 hT e5 => ?_⟩
        · -- refused
          have S15 := S14.trans S5
          refine ⟨pt, _, rfl, SqT.of e5, rfl, _, _, rfl, _, _, rfl, rfl, ?_⟩
          refine ⟨_, rfl, _, rfl, (by rw [hu]; rfl), _, rfl, if_fa (by rw [hu]; simp [wordV]) ?_⟩
          refine ⟨_, rfl, (by show 2 ≤ sizeLine; decide), fun p6 hp6 => ?_⟩
          obtain ⟨t6, ht6, kk6⟩ := is_new (K := K) (s := .lst xs) (hv.keep S15) hp6
          refine ⟨_, _, _, _, _, _, rfl, upd_same, .cons (.ty "list") (.cons (.ty "tuple") .nil), ht6, kk6, _, rfl, iteT ?_⟩
          have S16 : Same H1 (upd H5 p6 (.tup [.ty "list", .ty "tuple"])) := S15.trans (new_same hp6)
          have el6 : (upd H5 p6 (.tup [.ty "list", .ty "tuple"])) l = some (.lst xs) := new_same hp6 _ _ (S5 _ _ (S4 _ _ el))
          generalize upd H5 p6 (.tup [.ty "list", .ty "tuple"]) = H6 at S16 el6
          refine ⟨_, rfl, p, xs, rfl, .inl (SqL.of (S16 _ _ hp)), fun l7 hl7 => ?_⟩
          obtain ⟨ds, da, dc, dd⟩ := items_dp (K := K) (fun x hx => (ok.it x hx).keep (S16.trans (new_same (o := .lst xs) hl7)))
          refine ⟨_, rfl, _, _, .lst (SqL.of upd_same) da, .lst (SqL.of (new_same hl7 _ _ el6)) da, shaped_l dc dd, shaped_l dc dd, _, rfl, if_fa (by rw [eqv_l dc]; rfl) ?_⟩
          refine ⟨_, rfl, rfl, _, rfl, if_fa (by rw [hu]; simp [wordV]) ?_⟩
          have Sall := S16.trans (new_same hl7 (o := .lst xs))
          exact ⟨_, _, _, _, _, _, ys, rfl, fin _ (b1.trans (But.same Sall)) (h1.keep Sall)⟩
        · have S15 := S14.trans S5
          refine ⟨pt, _, rfl, SqT.of e5, rfl, _, _, rfl, _, _, rfl, rfl, ?_⟩
          refine ⟨_, rfl, _, rfl, (by rw [hd]; rfl), _, rfl, if_fa (by rw [hd]; simp [wordV]) ?_⟩
          refine ⟨_, rfl, (by show 2 ≤ sizeLine; decide), fun p6 hp6 => ?_⟩
          obtain ⟨t6, ht6, kk6⟩ := is_new (K := K) (s := .lst xs) (hv.keep S15) hp6
          refine ⟨_, _, _, _, _, _, rfl, upd_same, .cons (.ty "list") (.cons (.ty "tuple") .nil), ht6, kk6, _, rfl, iteT ?_⟩
          have S16 : Same H1 (upd H5 p6 (.tup [.ty "list", .ty "tuple"])) := S15.trans (new_same hp6)
          have el6 : (upd H5 p6 (.tup [.ty "list", .ty "tuple"])) l = some (.lst xs) := new_same hp6 _ _ (S5 _ _ (S4 _ _ el))
          have hT6 : TiesAt C (upd H5 p6 (.tup [.ty "list", .ty "tuple"])) x ns := hT.keep (new_same hp6)
          generalize upd H5 p6 (.tup [.ty "list", .ty "tuple"]) = H6 at S16 el6 hT6
          refine ⟨_, rfl, p, xs, rfl, .inl (SqL.of (S16 _ _ hp)), fun l7 hl7 => ?_⟩
          obtain ⟨ds, da, dc, dd⟩ := items_dp (K := K) (fun x hx => (ok.it x hx).keep (S16.trans (new_same (o := .lst xs) hl7)))
          refine ⟨_, rfl, _, _, .lst (SqL.of upd_same) da, .lst (SqL.of (new_same hl7 _ _ el6)) da, shaped_l dc dd, shaped_l dc dd, _, rfl, if_fa (by rw [eqv_l dc]; rfl) ?_⟩
          refine ⟨_, rfl, rfl, _, rfl, if_tr (by rw [hd]; simp [wordV]) ?_⟩
          have S17 := S16.trans (new_same hl7 (o := .lst xs))
          have el7 := new_same hl7 (o := .lst xs) _ _ el6
          have hT7 := hT6.keep (new_same hl7 (o := .lst xs))
          generalize upd H6 l7 (.lst xs) = H7 at S17 el7 hT7
          obtain ⟨ns2, e2, g⟩ := good_of (xs := xs) hd
          have hns : xs = ns.map V.int := hns
          obtain rfl : ns2 = ns := by
            rw [hns] at e2
            exact (List.map_inj_right (fun a b e => by injection e)).mp e2.symm
          subst hns
          refine ⟨_, rfl, _, rfl, x, l, ns2, rfl, hT7, el7, g, fun H8 S8 => ⟨_, rfl, iteF ?_⟩⟩
          have S18 := S17.trans S8
          have el8 := S8 _ _ el7
          have hT8 := hT7.keep S8
          have hp8 := S18 _ _ hp
          have lp := g.lo
          refine ⟨_, rfl, _, _, _, _, true, rfl, .ty "list", .base (.lst hp8), kit_ty kt_list_list, _, rfl, iteT ?_⟩
          refine ⟨_, rfl, p, _, 0, 0, rfl, rfl, hp8, ixN_at (by decide) (by rw [List.length_map]; omega), ?_⟩
          have el9 : (upd H8 p (.lst ((ns2.map V.int).set 0 (.int 7)))) l = some (.lst (ns2.map V.int)) := by rw [upd_ne nlp.symm]; exact el8
          have hT9 : TiesAt C (upd H8 p (.lst ((ns2.map V.int).set 0 (.int 7)))) x ns2 := by
            obtain ⟨dx, t, a1, a2⟩ := hT8
            exact ⟨dx, t, by rw [upd_ne (ne_of a1 hp8 (by intro z; cases z))]; exact a1, by rw [upd_ne (ne_of a2 hp8 (by intro z; cases z))]; exact a2⟩
          have b9 : But h G0 (upd H8 p (.lst ((ns2.map V.int).set 0 (.int 7)))) := (b1.trans (But.same S18)).put2 p0
          have h9 : Hand (upd H8 p (.lst ((ns2.map V.int).set 0 (.int 7)))) h q := (h1.keep S18).put (hh.h_ne p0).1 (hh.h_ne p0).2
          generalize upd H8 p (.lst ((ns2.map V.int).set 0 (.int 7))) = H9 at el9 hT9 b9 h9
          refine ⟨_, rfl, _, rfl, x, l, ns2, rfl, hT9, el9, g, fun H10 S10 => ⟨_, rfl, iteF ?_⟩⟩
          have em10 := S10 _ _ (b9 _ _ nhm.symm em)
          refine ⟨_, rfl, .inl ⟨rfl, _, SqL.of em10⟩, _, rfl, _, rfl, (by show 2 ≤ sizeLine; decide), fun T0 hT0 => ?_⟩
          have em11 := new_same hT0 (o := .tup [.ref x, .ref l]) _ _ em10
          refine ⟨ml, ys, _, rfl, rfl, em11, small1000 (by omega), ?_⟩
          have h11 : Hand (upd H10 T0 (.tup [.ref x, .ref l])) h q := (h9.keep S10).new hT0
          have B11 : But h G0 (upd H10 T0 (.tup [.ref x, .ref l])) := (b9.trans (But.same S10)).trans (But.same (new_same hT0))
          have pr11 : Pr C h ml (upd H10 T0 (.tup [.ref x, .ref l])) (.ref T0) := ⟨T0, x, l, ns2, rfl, upd_same, (hT9.keep S10).keep (new_same hT0), new_same hT0 _ _ (S10 _ _ el9), g, nlh, nlm⟩
          generalize upd H10 T0 (.tup [.ref x, .ref l]) = H11 at em11 h11 B11 pr11
          obtain ⟨us, eh⟩ := h11.at_
          refine ⟨_, _, _, _, _, _, ys ++ [.ref T0], rfl, h11.put nhm nqm, upd_same, by rw [List.length_append]; show ys.length + 1 ≤ i + 1; omega, fun y hy => ?_⟩
          have up : ∀ b o, b ≠ h → b ≠ ml → H11 b = some o → (upd H11 ml (.lst (ys ++ [.ref T0]))) b = some o := fun b o _ n2 e => by rw [upd_ne n2]; exact e
          rcases List.mem_append.mp hy with hy | hy
          · obtain ⟨us0, eh0⟩ := hh.at_
            exact ((prs y hy).but eh0 em fun b o n1 _ e => B11 b o n1 e).but eh em11 up
          · obtain rfl := List.mem_singleton.mp hy
            exact pr11.but eh em11 up
      case tup xs =>
        obtain ⟨p, rfl, hp⟩ := hv
        have hv : Is H1 (.ref p) (.tup xs) := ⟨p, rfl, hp⟩
        have p0 : G0 p = none := ok.new p rfl
        refine ⟨_, rfl, (by show 2 ≤ sizeLine; decide), fun p2 hp2 => ?_⟩
        obtain ⟨t2, ht2, kk⟩ := is_new (K := K) (s := .tup xs) hv hp2
        refine ⟨_, _, _, _, _, _, rfl, upd_same, .cons (.ty "list") (.cons (.ty "tuple") .nil), ht2, kk, _, rfl, iteT ?_⟩
        have S2 : Same H1 (upd H1 p2 (.tup [.ty "list", .ty "tuple"])) := new_same hp2
        generalize upd H1 p2 (.tup [.ty "list", .ty "tuple"]) = H2 at S2
        refine ⟨_, rfl, p, xs, rfl, .inr (SqT.of (S2 _ _ hp)), fun l hl => ?_⟩
        have S2' : Same H1 (upd H2 l (.lst xs)) := S2.trans (new_same hl)
        have el : (upd H2 l (.lst xs)) l = some (.lst xs) := upd_same
        have l1 : H1 l = none := S2.free hl
        generalize upd H2 l (.lst xs) = H3 at S2' el
        have nlp : p ≠ l := ne_of_none hp l1
        have nlh : l ≠ h := (h1.h_ne l1).1.symm
        have nlm : l ≠ ml := by
          have := b1 _ _ nhm.symm em
          exact (ne_of_none this l1).symm
        refine ⟨_, rfl, _, .tup xs, rfl, hv.keep S2', (known_of ok.it).keep S2', fun H4 S4 => ?_⟩
        have S14 := S2'.trans S4
        refine ⟨_, rfl, _, .tup xs, rfl, hv.keep S14, (known_of ok.it).keep S14, fun u hu pt H5 S5 hpt e5 => ?_, fun ns hd hns pt x H5 S5 hpt hx0 hT e5 => ?_⟩
        · -- refused
          have S15 := S14.trans S5
          refine ⟨pt, _, rfl, SqT.of e5, rfl, _, _, rfl, _, _, rfl, rfl, ?_⟩
          refine ⟨_, rfl, _, rfl, (by rw [hu]; rfl), _, rfl, if_fa (by rw [hu]; simp [wordV]) ?_⟩
          refine ⟨_, rfl, (by show 2 ≤ sizeLine; decide), fun p6 hp6 => ?_⟩
          obtain ⟨t6, ht6, kk6⟩ := is_new (K := K) (s := .tup xs) (hv.keep S15) hp6
          refine ⟨_, _, _, _, _, _, rfl, upd_same, .cons (.ty "list") (.cons (.ty "tuple") .nil), ht6, kk6, _, rfl, iteT ?_⟩
          have S16 : Same H1 (upd H5 p6 (.tup [.ty "list", .ty "tuple"])) := S15.trans (new_same hp6)
          have el6 : (upd H5 p6 (.tup [.ty "list", .ty "tuple"])) l = some (.lst xs) := new_same hp6 _ _ (S5 _ _ (S4 _ _ el))
          generalize upd H5 p6 (.tup [.ty "list", .ty "tuple"]) = H6 at S16 el6
          refine ⟨_, rfl, p, xs, rfl, .inr (SqT.of (S16 _ _ hp)), fun l7 hl7 => ?_⟩
          obtain ⟨ds, da, dc, dd⟩ := items_dp (K := K) (fun x hx => (ok.it x hx).keep (S16.trans (new_same (o := .lst xs) hl7)))
          refine ⟨_, rfl, _, _, .lst (SqL.of upd_same) da, .lst (SqL.of (new_same hl7 _ _ el6)) da, shaped_l dc dd, shaped_l dc dd, _, rfl, if_fa (by rw [eqv_l dc]; rfl) ?_⟩
          refine ⟨_, rfl, rfl, _, rfl, if_fa (by rw [hu]; simp [wordV]) ?_⟩
          have Sall := S16.trans (new_same hl7 (o := .lst xs))
          exact ⟨_, _, _, _, _, _, ys, rfl, fin _ (b1.trans (But.same Sall)) (h1.keep Sall)⟩
        · have S15 := S14.trans S5
          refine ⟨pt, _, rfl, SqT.of e5, rfl, _, _, rfl, _, _, rfl, rfl, ?_⟩
          refine ⟨_, rfl, _, rfl, (by rw [hd]; rfl), _, rfl, if_fa (by rw [hd]; simp [wordV]) ?_⟩
          refine ⟨_, rfl, (by show 2 ≤ sizeLine; decide), fun p6 hp6 => ?_⟩
          obtain ⟨t6, ht6, kk6⟩ := is_new (K := K) (s := .tup xs) (hv.keep S15) hp6
          refine ⟨_, _, _, _, _, _, rfl, upd_same, .cons (.ty "list") (.cons (.ty "tuple") .nil), ht6, kk6, _, rfl, iteT ?_⟩
          have S16 : Same H1 (upd H5 p6 (.tup [.ty "list", .ty "tuple"])) := S15.trans (new_same hp6)
          have el6 : (upd H5 p6 (.tup [.ty "list", .ty "tuple"])) l = some (.lst xs) := new_same hp6 _ _ (S5 _ _ (S4 _ _ el))
          have hT6 : TiesAt C (upd H5 p6 (.tup [.ty "list", .ty "tuple"])) x ns := hT.keep (new_same hp6)
          generalize upd H5 p6 (.tup [.ty "list", .ty "tuple"]) = H6 at S16 el6 hT6
          refine ⟨_, rfl, p, xs, rfl, .inr (SqT.of (S16 _ _ hp)), fun l7 hl7 => ?_⟩
          obtain ⟨ds, da, dc, dd⟩ := items_dp (K := K) (fun x hx => (ok.it x hx).keep (S16.trans (new_same (o := .lst xs) hl7)))
          refine ⟨_, rfl, _, _, .lst (SqL.of upd_same) da, .lst (SqL.of (new_same hl7 _ _ el6)) da, shaped_l dc dd, shaped_l dc dd, _, rfl, if_fa (by rw [eqv_l dc]; rfl) ?_⟩
          refine ⟨_, rfl, rfl, _, rfl, if_tr (by rw [hd]; simp [wordV]) ?_⟩
          have S17 := S16.trans (new_same hl7 (o := .lst xs))
          have el7 := new_same hl7 (o := .lst xs) _ _ el6
          have hT7 := hT6.keep (new_same hl7 (o := .lst xs))
          generalize upd H6 l7 (.lst xs) = H7 at S17 el7 hT7
          obtain ⟨ns2, e2, g⟩ := good_of (xs := xs) hd
          have hns : xs = ns.map V.int := hns
          obtain rfl : ns2 = ns := by
            rw [hns] at e2
            exact (List.map_inj_right (fun a b e => by injection e)).mp e2.symm
          subst hns
          refine ⟨_, rfl, _, rfl, x, l, ns2, rfl, hT7, el7, g, fun H8 S8 => ⟨_, rfl, iteF ?_⟩⟩
          have S18 := S17.trans S8
          have el8 := S8 _ _ el7
          have hT8 := hT7.keep S8
          have hp8 := S18 _ _ hp
          refine ⟨_, rfl, _, _, _, _, false, rfl, .ty "list", .base (.tup hp8), kit_ty kt_tuple_list, _, rfl, iteF ?_⟩
          have el9 := el8
          have hT9 := hT8
          have b9 : But h G0 H8 := b1.trans (But.same S18)
          have h9 : Hand H8 h q := h1.keep S18
          generalize H8 = H9 at el9 hT9 b9 h9
          refine ⟨_, rfl, _, rfl, x, l, ns2, rfl, hT9, el9, g, fun H10 S10 => ⟨_, rfl, iteF ?_⟩⟩
          have em10 := S10 _ _ (b9 _ _ nhm.symm em)
          refine ⟨_, rfl, .inl ⟨rfl, _, SqL.of em10⟩, _, rfl, _, rfl, (by show 2 ≤ sizeLine; decide), fun T0 hT0 => ?_⟩
          have em11 := new_same hT0 (o := .tup [.ref x, .ref l]) _ _ em10
          refine ⟨ml, ys, _, rfl, rfl, em11, small1000 (by omega), ?_⟩
          have h11 : Hand (upd H10 T0 (.tup [.ref x, .ref l])) h q := (h9.keep S10).new hT0
          have B11 : But h G0 (upd H10 T0 (.tup [.ref x, .ref l])) := (b9.trans (But.same S10)).trans (But.same (new_same hT0))
          have pr11 : Pr C h ml (upd H10 T0 (.tup [.ref x, .ref l])) (.ref T0) := ⟨T0, x, l, ns2, rfl, upd_same, (hT9.keep S10).keep (new_same hT0), new_same hT0 _ _ (S10 _ _ el9), g, nlh, nlm⟩
          generalize upd H10 T0 (.tup [.ref x, .ref l]) = H11 at em11 h11 B11 pr11
          obtain ⟨us, eh⟩ := h11.at_
          refine ⟨_, _, _, _, _, _, ys ++ [.ref T0], rfl, h11.put nhm nqm, upd_same, by rw [List.length_append]; show ys.length + 1 ≤ i + 1; omega, fun y hy => ?_⟩
          have up : ∀ b o, b ≠ h → b ≠ ml → H11 b = some o → (upd H11 ml (.lst (ys ++ [.ref T0]))) b = some o := fun b o _ n2 e => by rw [upd_ne n2]; exact e
          rcases List.mem_append.mp hy with hy | hy
          · obtain ⟨us0, eh0⟩ := hh.at_
            exact ((prs y hy).but eh0 em fun b o n1 _ e => B11 b o n1 e).but eh em11 up
          · obtain rfl := List.mem_singleton.mp hy
            exact pr11.but eh em11 up
    · clear hh
      rintro σ G0 ⟨v3, v4, v5, v6, v7, v8, ys, rfl, hh, em, ly, prs⟩
      refine ⟨_, rfl, _, rfl, h, q, 3, rfl, by decide, by decide, hh, fun d H1 d0 d3 b1 h1 => ⟨_, _, rfl, rfl, h, q, 2 + d, rfl, by omega, by omega, h1, fun ns2 l H2 ln g b2 hl1 el h2 => ?_⟩⟩
      have B2 := b1.trans b2
      obtain ⟨us0, eh0⟩ := hh.at_
      have em2 := B2 _ _ nhm.symm em
      have pr2 : ∀ y ∈ ys, Pr C h ml H2 y := fun y hy => (prs y hy).but eh0 em fun b o n1 _ e => B2 b o n1 e
      have nlh : l ≠ h := ((h1.h_ne hl1).1).symm
      have nlm : l ≠ ml := (ne_of_none (b1 _ _ nhm.symm em) hl1).symm
      refine ⟨_, rfl, .inl ⟨rfl, _, SqL.of em2⟩, _, rfl, l, _, rfl, .inl (SqL.of el), fun z hz => fun x dx nx ndx nex => ?_⟩
      have Sz : Same H2 (upd H2 z (.lst (ns2.map V.int))) := new_same hz
      have ez : (upd H2 z (.lst (ns2.map V.int))) z = some (.lst (ns2.map V.int)) := upd_same
      have S0 : Same (upd H2 z (.lst (ns2.map V.int))) (upd (upd (upd H2 z (.lst (ns2.map V.int))) dx (.own x)) x (.ins C dx [])) := fun b o e => by
        rw [upd_ne (ne_of_none e nx), upd_ne (ne_of_none e ndx)]
        exact e
      have hd : due (.lst (ns2.map V.int)) = none := due_of g
      refine ⟨x, dx, .ref z, .lst (ns2.map V.int), rfl, upd_same, ⟨z, rfl, S0 _ _ ez⟩, (fun y hy => by
        obtain ⟨n, _, rfl⟩ := List.mem_map.mp hy
        exact ⟨.sc (.int n), rfl, rfl⟩), (fun u hu => by rw [hd] at hu; cases hu), fun ns3 _ e3 H3 B3 hT3 => ⟨rfl, ?_⟩⟩
      obtain rfl : ns2 = ns3 := (List.map_inj_right (fun a b e => by injection e)).mp e3
      have S3 : Same H2 H3 := fun b o e => B3 b o (ne_of_none (Sz b o e) nx) (S0 b o (Sz b o e))
      have em3 := S3 _ _ em2
      refine ⟨_, rfl, (by show 2 ≤ sizeLine; decide), fun T0 hT0 => ?_⟩
      have em4 := new_same hT0 (o := .tup [.ref x, .ref l]) _ _ em3
      refine ⟨ml, ys, _, rfl, rfl, em4, small1000 (by omega), ?_⟩
      have h4 : Hand (upd H3 T0 (.tup [.ref x, .ref l])) h q := (h2.keep S3).new hT0
      have S4 : Same H2 (upd H3 T0 (.tup [.ref x, .ref l])) := S3.trans (new_same hT0)
      have pr4 : Pr C h ml (upd H3 T0 (.tup [.ref x, .ref l])) (.ref T0) := ⟨T0, x, l, ns2, rfl, upd_same, hT3.keep (new_same hT0), new_same hT0 _ _ (S3 _ _ el), g, nlh, nlm⟩
      generalize upd H3 T0 (.tup [.ref x, .ref l]) = H4 at em4 h4 S4 pr4
      obtain ⟨us4, eh4⟩ := h4.at_
      have up : ∀ b o, b ≠ h → b ≠ ml → H4 b = some o → (upd H4 ml (.lst (ys ++ [.ref T0]))) b = some o := fun b o _ n2 e => by rw [upd_ne n2]; exact e
      have h5 := h4.put (o := .lst (ys ++ [.ref T0])) nhm nqm
      have em5 : (upd H4 ml (.lst (ys ++ [.ref T0]))) ml = some (.lst (ys ++ [.ref T0])) := upd_same
      have pr5 : ∀ y ∈ ys ++ [.ref T0], Pr C h ml (upd H4 ml (.lst (ys ++ [.ref T0]))) y := fun y hy => by
        rcases List.mem_append.mp hy with hy | hy
        · exact ((pr2 y hy).keep S4).but eh4 em4 up
        · obtain rfl := List.mem_singleton.mp hy
          exact pr4.but eh4 em4 up
      generalize upd H4 ml (.lst (ys ++ [.ref T0])) = H5 at h5 em5 pr5
      generalize ys ++ [.ref T0] = zs at em5 pr5
      refine ⟨_, rfl, ml, rfl, ⟨_, SqL.of em5⟩, for_list (K := K) (a := ml) (xs := zs) (fun i σ H' => ∃ v10 v11 v12 v13 : Option V, σ = [some (.ref a), some (.ref h), some (.ref ml), v3, v4, v5, v6, v7, v8, some (.ref l), v10, v11, v12, v13] ∧ Same H5 H')
        ⟨_, _, _, _, rfl, Same.refl _⟩ (fun i σ H' _ ⟨_, _, _, _, _, S⟩ => S.seq (SqL.of em5)) ?_ ?_⟩
      · rintro i y σ H6 hy ⟨v10, v11, v12, v13, rfl, S6⟩
        obtain ⟨Ta, xa, la, na, rfl, eTa, hTa, ela, ga, _⟩ := (pr5 y (List.mem_of_getElem? hy)).keep S6
        refine ⟨Ta, _, rfl, SqT.of eTa, rfl, _, _, rfl, _, _, rfl, rfl, ?_⟩
        refine ⟨_, rfl, ml, rfl, ⟨_, SqL.of (S6 _ _ em5)⟩, for_list (K := K) (a := ml) (xs := zs) (fun i σ H' => ∃ v12 v13 : Option V, σ = [some (.ref a), some (.ref h), some (.ref ml), v3, v4, v5, v6, v7, v8, some (.ref l), some (.ref xa), some (.ref la), v12, v13] ∧ Same H6 H')
          ⟨_, _, rfl, Same.refl _⟩ (fun i σ H' _ ⟨_, _, _, S⟩ => S.seq (SqL.of (S6 _ _ em5))) ?_ ?_⟩
        · rintro j y2 σ H7 hy2 ⟨v12, v13, rfl, S7⟩
          obtain ⟨Tb, xb, lb, nb, rfl, eTb, hTb, elb, gb, _⟩ := ((pr5 y2 (List.mem_of_getElem? hy2)).keep S6).keep S7
          have hTa7 := hTa.keep S7
          have ela7 := S7 _ _ ela
          obtain ⟨da, ta, a1, a2⟩ := id hTa7
          obtain ⟨db, tb, c1, c2⟩ := id hTb
          refine ⟨Tb, _, rfl, SqT.of eTb, rfl, _, _, rfl, _, _, rfl, rfl, ?_⟩
          refine ⟨_, rfl, _, rfl, xa, xb, da, _, rfl, rfl, a1, .inl ⟨db, _, c1⟩, xa, xb, na, rfl, hTa7, .inl ⟨nb, hTb, ⟨_, rfl⟩, ?_⟩⟩
          refine ⟨_, rfl, _, rfl, _, _, .lst (SqL.of ela7) (dp_ints na), .lst (SqL.of elb) (dp_ints nb), shaped_li na, shaped_li nb, _, _, rfl, _, rfl, if_fa (by rw [eqv_li]; simp) ?_⟩
          exact ⟨_, rfl, _, rfl, xb, lb, nb, rfl, hTb, elb, gb, fun H8 S8 => ⟨_, rfl, iteF ⟨_, _, rfl, S7.trans S8⟩⟩⟩
        · rintro σ H7 ⟨v12, v13, rfl, S7⟩
          have hTa7 := hTa.keep S7
          have ela7 := S7 _ _ ela
          obtain ⟨da, ta, a1, a2⟩ := id hTa7
          refine ⟨_, rfl, _, rfl, la, _, rfl, .inl ⟨SqL.of ela7, fun t8 ht8 => ?_⟩⟩
          have hTa8 := hTa7.keep (new_same ht8 (o := .tup (na.map V.int)))
          obtain ⟨da8, ta8, a18, a28⟩ := id hTa8
          refine ⟨xa, t8, da8, _, rfl, rfl, a18, .inr ⟨_, upd_same⟩, xa, t8, na, rfl, hTa8, .inr ⟨⟨_, upd_same⟩, ⟨_, rfl⟩, _, rfl, if_fa rfl ?_⟩⟩
          exact ⟨_, _, _, _, rfl, (S6.trans S7).trans (new_same ht8)⟩
      · rintro σ H6 ⟨v10, v11, v12, v13, rfl, S6⟩
        refine ⟨_, rfl, h, q, rfl, h5.keep S6, fun H7 B7 => ⟨_, rfl, if_tr rfl ?_⟩⟩
        refine ⟨rfl, _, rfl, if_tr (by simp) ?_⟩
        refine ⟨_, _, rfl, rfl, ⟨by decide, by decide, by decide⟩, rfl, ?_⟩
        show Q (.bl (decide (V.int 1000000000 = V.int (10 ^ (9 : Int).toNat)))) H7
        rw [p9, decide_eq_true rfl]
        exact k _
end
end J

set_option Elab.async false
set_option linter.all false
set_option maxRecDepth 100000
set_option maxHeartbeats 8000000
namespace J
open PySem L2
theorem kit_me {K : PySem.W.Frag} {S : Addr} : PySem.W.kitOne K (.ref S) (.ref S) = some true := by
  unfold PySem.W.kitOne
  rw [if_pos (by simp)]
theorem kit_no {K : PySem.W.Frag} {S : Addr} {T : String} (h2 : PySem.W.isClsIn K S = true) (h3 : PySem.W.typeIn K (.ref S) = some (.type "type")) (h4 : PySem.W.subIn K (.type T) (.ref S) = some false) : PySem.W.kitOne K (.type T) (.ref S) = some false := by
  have e2 : ((PySem.W.clsIn K S).isSome && PySem.W.typeIn K (.ref S) == some (.type "type")) = true := by
    have q : (PySem.W.clsIn K S).isSome = true := h2
    rw [q, h3]
    rfl
  unfold PySem.W.kitOne
  rw [if_neg (by simp)]
  show (if ((PySem.W.clsIn K S).isSome && PySem.W.typeIn K (.ref S) == some (.type "type")) = true then PySem.W.subIn K (.type T) (.ref S) else none) = some false
  rw [if_pos e2]
  exact h4
/-- an error of the class at S is what its own name catches -/
theorem exm_own {K : PySem.W.Frag} {S : Addr} (h1 : PySem.W.subIn K (.ref S) (.type "BaseException") = some true) (h2 : PySem.W.isClsIn K S = true) (h3 : PySem.W.typeIn K (.ref S) = some (.type "type")) (h4 : PySem.W.subIn K (.ref S) (.ref S) = some true) :
    PySem.W.exmOne K (.ref S) (.ref S) = some true := by
  have e1 : (PySem.W.subIn K (.ref S) (.type "BaseException") == some true) = true := by rw [h1]; rfl
  have e2 : ((PySem.W.clsIn K S).isSome && PySem.W.typeIn K (.ref S) == some (.type "type")) = true := by
    have q : (PySem.W.clsIn K S).isSome = true := h2
    rw [q, h3]
    rfl
  unfold PySem.W.exmOne
  rw [if_pos e1]
  show (if ((PySem.W.clsIn K S).isSome && PySem.W.typeIn K (.ref S) == some (.type "type")) = true then PySem.W.subIn K (.ref S) (.ref S) else none) = some true
  rw [if_pos e2]
  exact h4
theorem all_mk {l : PySem.W.OpenLaw} {w : World} {K : PySem.W.Frag} {h : Heap} {mg : Str → Option Value} {fa : Addr} (X : K.In h) (G : h.Ns mainGlobals mg) (hfa : mg "law" = some (.ref fa))
    {CT CB CN GE f_W f_L f_Q f_C f_Y f_X f_H f_D f_K f_U f_T f_M f_N f_R f_Z f_V f_mI f_mE f_mH f_mB f_mO f_mP f_mQ : Addr} {ocW kVW dcW pmW cdW ctW ocL kVL dcL pmL cdL ctL ocQ kVQ dcQ pmQ cdQ ctQ ocC kVC dcC pmC cdC ctC ocY kVY dcY pmY cdY ctY ocX kVX dcX pmX cdX ctX ocH kVH dcH pmH cdH ctH ocD kVD dcD pmD cdD ctD ocK kVK dcK pmK cdK ctK ocU kVU dcU pmU cdU ctU ocT kVT dcT pmT cdT ctT ocM kVM dcM pmM cdM ctM ocN kVN dcN pmN cdN ctN ocR kVR dcR pmR cdR ctR ocZ kVZ dcZ pmZ cdZ ctZ ocV kVV dcV pmV cdV ctV ocmI kVmI dcmI pmmI cdmI ctmI ocmE kVmE dcmE pmmE cdmE ctmE ocmH kVmH dcmH pmmH cdmH ctmH ocmB kVmB dcmB pmmB cdmB ctmB ocmO kVmO dcmO pmmO cdmO ctmO ocmP kVmP dcmP pmmP cdmP ctmP ocmQ kVmQ dcmQ pmmQ cdmQ ctmQ : Value} {odW anW odL anL odQ anQ odC anC odY anY odX anX odH anH odD anD odK anK odU anU odT anT odM anM odN anN odR anR odZ anZ odV anV odmI anmI odmE anmE odmH anmH odmB anmB odmO anmO odmP anmP odmQ anmQ : Option Addr} {slW slL slQ slC slY slX slH slD slK slU slT slM slN slR slZ slV slmI slmE slmH slmB slmO slmP slmQ : Array (Option Value)} {tM tL : Tok}
    {nmCB qCB : Str} {NCB : Addr} {bsCB : List Value} {snCB : List Str} {subCB : List Value} {abCB : Bool} {colCB : Option Bool} {ddCB : Option Addr} {m0CB m1CB m2CB m3CB m5CB : Option Value}
    {nmCN qCN : Str} {NCN : Addr} {bsCN : List Value} {snCN : List Str} {subCN : List Value} {abCN : Bool} {colCN : Option Bool} {ddCN : Option Addr} {m0CN m1CN m2CN m3CN m5CN : Option Value}
    (aCT : PySem.W.nsIn K mainGlobals "Ties" = some (some (.ref CT)))
    (aCB : PySem.W.nsIn K mainGlobals "BadTies" = some (some (.ref CB)))
    (aCN : PySem.W.nsIn K mainGlobals "NoTie" = some (some (.ref CN)))
    (aW : PySem.W.nsIn K mainGlobals "is_whole" = some (some (.ref f_W)))
    (lW : K.lookup f_W = some ⟨ocW, odW, .func (PySem.W.fnOf "is_whole" "is_whole" (defArgs s_is_whole) (defBody s_is_whole) (defScope s_is_whole) .none kVW dcW pmW anW cdW ctW), slW⟩)
    (cW : PySem.W.codeIn K cdW "is_whole" = true)
    (kW : PySem.W.keepIn K (.ref f_W) = true)
    (aL : PySem.W.nsIn K mainGlobals "is_label" = some (some (.ref f_L)))
    (lL : K.lookup f_L = some ⟨ocL, odL, .func (PySem.W.fnOf "is_label" "is_label" (defArgs s_is_label) (defBody s_is_label) (defScope s_is_label) .none kVL dcL pmL anL cdL ctL), slL⟩)
    (cL : PySem.W.codeIn K cdL "is_label" = true)
    (kL : PySem.W.keepIn K (.ref f_L) = true)
    (aQ : PySem.W.nsIn K mainGlobals "is_sequence" = some (some (.ref f_Q)))
    (lQ : K.lookup f_Q = some ⟨ocQ, odQ, .func (PySem.W.fnOf "is_sequence" "is_sequence" (defArgs s_is_sequence) (defBody s_is_sequence) (defScope s_is_sequence) .none kVQ dcQ pmQ anQ cdQ ctQ), slQ⟩)
    (cQ : PySem.W.codeIn K cdQ "is_sequence" = true)
    (kQ : PySem.W.keepIn K (.ref f_Q) = true)
    (aC : PySem.W.nsIn K mainGlobals "ties_fault" = some (some (.ref f_C)))
    (lC : K.lookup f_C = some ⟨ocC, odC, .func (PySem.W.fnOf "ties_fault" "ties_fault" (defArgs s_ties_fault) (defBody s_ties_fault) (defScope s_ties_fault) .none kVC dcC pmC anC cdC ctC), slC⟩)
    (cC : PySem.W.codeIn K cdC "ties_fault" = true)
    (kC : PySem.W.keepIn K (.ref f_C) = true)
    (aY : PySem.W.nsIn K mainGlobals "_law_says" = some (some (.ref f_Y)))
    (lY : K.lookup f_Y = some ⟨ocY, odY, .func (PySem.W.fnOf "_law_says" "_law_says" (defArgs s_Lsays) (defBody s_Lsays) (defScope s_Lsays) .none kVY dcY pmY anY cdY ctY), slY⟩)
    (cY : PySem.W.codeIn K cdY "_law_says" = true)
    (kY : PySem.W.keepIn K (.ref f_Y) = true)
    (aX : PySem.W.nsIn K mainGlobals "_law_mix" = some (some (.ref f_X)))
    (lX : K.lookup f_X = some ⟨ocX, odX, .func (PySem.W.fnOf "_law_mix" "_law_mix" (defArgs s_Lmix) (defBody s_Lmix) (defScope s_Lmix) .none kVX dcX pmX anX cdX ctX), slX⟩)
    (cX : PySem.W.codeIn K cdX "_law_mix" = true)
    (kX : PySem.W.keepIn K (.ref f_X) = true)
    (aH : PySem.W.nsIn K mainGlobals "_law_hand" = some (some (.ref f_H)))
    (lH : K.lookup f_H = some ⟨ocH, odH, .func (PySem.W.fnOf "_law_hand" "_law_hand" (defArgs s_Lhand) (defBody s_Lhand) (defScope s_Lhand) .none kVH dcH pmH anH cdH ctH), slH⟩)
    (cH : PySem.W.codeIn K cdH "_law_hand" = true)
    (kH : PySem.W.keepIn K (.ref f_H) = true)
    (aD : PySem.W.nsIn K mainGlobals "_law_draw" = some (some (.ref f_D)))
    (lD : K.lookup f_D = some ⟨ocD, odD, .func (PySem.W.fnOf "_law_draw" "_law_draw" (defArgs s_Ldraw) (defBody s_Ldraw) (defScope s_Ldraw) .none kVD dcD pmD anD cdD ctD), slD⟩)
    (cD : PySem.W.codeIn K cdD "_law_draw" = true)
    (kD : PySem.W.keepIn K (.ref f_D) = true)
    (aK : PySem.W.nsIn K mainGlobals "_law_backs" = some (some (.ref f_K)))
    (lK : K.lookup f_K = some ⟨ocK, odK, .func (PySem.W.fnOf "_law_backs" "_law_backs" (defArgs s_Lbacks) (defBody s_Lbacks) (defScope s_Lbacks) .none kVK dcK pmK anK cdK ctK), slK⟩)
    (cK : PySem.W.codeIn K cdK "_law_backs" = true)
    (kK : PySem.W.keepIn K (.ref f_K) = true)
    (aU : PySem.W.nsIn K mainGlobals "_law_due" = some (some (.ref f_U)))
    (lU : K.lookup f_U = some ⟨ocU, odU, .func (PySem.W.fnOf "_law_due" "_law_due" (defArgs s_Ldue) (defBody s_Ldue) (defScope s_Ldue) .none kVU dcU pmU anU cdU ctU), slU⟩)
    (cU : PySem.W.codeIn K cdU "_law_due" = true)
    (kU : PySem.W.keepIn K (.ref f_U) = true)
    (aT : PySem.W.nsIn K mainGlobals "_law_thing" = some (some (.ref f_T)))
    (lT : K.lookup f_T = some ⟨ocT, odT, .func (PySem.W.fnOf "_law_thing" "_law_thing" (defArgs s_Lthing) (defBody s_Lthing) (defScope s_Lthing) .none kVT dcT pmT anT cdT ctT), slT⟩)
    (cT : PySem.W.codeIn K cdT "_law_thing" = true)
    (kT : PySem.W.keepIn K (.ref f_T) = true)
    (aM : PySem.W.nsIn K mainGlobals "_law_made" = some (some (.ref f_M)))
    (lM : K.lookup f_M = some ⟨ocM, odM, .func (PySem.W.fnOf "_law_made" "_law_made" (defArgs s_Lmade) (defBody s_Lmade) (defScope s_Lmade) .none kVM dcM pmM anM cdM ctM), slM⟩)
    (cM : PySem.W.codeIn K cdM "_law_made" = true)
    (kM : PySem.W.keepIn K (.ref f_M) = true)
    (aN : PySem.W.nsIn K mainGlobals "_law_no_tie" = some (some (.ref f_N)))
    (lN : K.lookup f_N = some ⟨ocN, odN, .func (PySem.W.fnOf "_law_no_tie" "_law_no_tie" (defArgs s_Lno_tie) (defBody s_Lno_tie) (defScope s_Lno_tie) .none kVN dcN pmN anN cdN ctN), slN⟩)
    (cN : PySem.W.codeIn K cdN "_law_no_tie" = true)
    (kN : PySem.W.keepIn K (.ref f_N) = true)
    (aR : PySem.W.nsIn K mainGlobals "_law_right" = some (some (.ref f_R)))
    (lR : K.lookup f_R = some ⟨ocR, odR, .func (PySem.W.fnOf "_law_right" "_law_right" (defArgs s_Lright) (defBody s_Lright) (defScope s_Lright) .none kVR dcR pmR anR cdR ctR), slR⟩)
    (cR : PySem.W.codeIn K cdR "_law_right" = true)
    (kR : PySem.W.keepIn K (.ref f_R) = true)
    (aZ : PySem.W.nsIn K mainGlobals "_law_whole" = some (some (.ref f_Z)))
    (lZ : K.lookup f_Z = some ⟨ocZ, odZ, .func (PySem.W.fnOf "_law_whole" "_law_whole" (defArgs s_Lwhole) (defBody s_Lwhole) (defScope s_Lwhole) .none kVZ dcZ pmZ anZ cdZ ctZ), slZ⟩)
    (cZ : PySem.W.codeIn K cdZ "_law_whole" = true)
    (kZ : PySem.W.keepIn K (.ref f_Z) = true)
    (aV : PySem.W.nsIn K mainGlobals "law" = some (some (.ref f_V)))
    (lV : K.lookup f_V = some ⟨ocV, odV, .func (PySem.W.fnOf "law" "law" (defArgs s_law) (defBody s_law) (defScope s_law) .none kVV dcV pmV anV cdV ctV), slV⟩)
    (cV : PySem.W.codeIn K cdV "law" = true)
    (kV : PySem.W.keepIn K (.ref f_V) = true)
    (amI : PySem.W.findIn K (.ref CT) "__init__" = some (some (.ref f_mI)))
    (imI : PySem.W.isFn K (.ref f_mI) = true)
    (lmI : K.lookup f_mI = some ⟨ocmI, odmI, .func (PySem.W.fnOf "__init__" "Ties.__init__" (defArgs s_Ties_init) (defBody s_Ties_init) (defScope s_Ties_init) .none kVmI dcmI pmmI anmI cdmI ctmI), slmI⟩)
    (cmI : PySem.W.codeIn K cdmI "Ties.__init__" = true)
    (kmI : PySem.W.keepIn K (.ref f_mI) = true)
    (amE : PySem.W.findIn K (.ref CT) "__eq__" = some (some (.ref f_mE)))
    (imE : PySem.W.isFn K (.ref f_mE) = true)
    (lmE : K.lookup f_mE = some ⟨ocmE, odmE, .func (PySem.W.fnOf "__eq__" "Ties.__eq__" (defArgs s_Ties_eq) (defBody s_Ties_eq) (defScope s_Ties_eq) .none kVmE dcmE pmmE anmE cdmE ctmE), slmE⟩)
    (cmE : PySem.W.codeIn K cdmE "Ties.__eq__" = true)
    (kmE : PySem.W.keepIn K (.ref f_mE) = true)
    (amH : PySem.W.findIn K (.ref CT) "has" = some (some (.ref f_mH)))
    (imH : PySem.W.isFn K (.ref f_mH) = true)
    (lmH : K.lookup f_mH = some ⟨ocmH, odmH, .func (PySem.W.fnOf "has" "Ties.has" (defArgs s_Ties_has) (defBody s_Ties_has) (defScope s_Ties_has) .none kVmH dcmH pmmH anmH cdmH ctmH), slmH⟩)
    (cmH : PySem.W.codeIn K cdmH "Ties.has" = true)
    (kmH : PySem.W.keepIn K (.ref f_mH) = true)
    (amB : PySem.W.findIn K (.ref CT) "back" = some (some (.ref f_mB)))
    (imB : PySem.W.isFn K (.ref f_mB) = true)
    (lmB : K.lookup f_mB = some ⟨ocmB, odmB, .func (PySem.W.fnOf "back" "Ties.back" (defArgs s_Ties_back) (defBody s_Ties_back) (defScope s_Ties_back) .none kVmB dcmB pmmB anmB cdmB ctmB), slmB⟩)
    (cmB : PySem.W.codeIn K cdmB "Ties.back" = true)
    (kmB : PySem.W.keepIn K (.ref f_mB) = true)
    (amO : PySem.W.findIn K (.ref CT) "one_way" = some (some (.ref f_mO)))
    (imO : PySem.W.isFn K (.ref f_mO) = true)
    (lmO : K.lookup f_mO = some ⟨ocmO, odmO, .func (PySem.W.fnOf "one_way" "Ties.one_way" (defArgs s_Ties_one_way) (defBody s_Ties_one_way) (defScope s_Ties_one_way) .none kVmO dcmO pmmO anmO cdmO ctmO), slmO⟩)
    (cmO : PySem.W.codeIn K cdmO "Ties.one_way" = true)
    (kmO : PySem.W.keepIn K (.ref f_mO) = true)
    (amP : PySem.W.findIn K (.ref CB) "__init__" = some (some (.ref f_mP)))
    (imP : PySem.W.typeIn K (.ref f_mP) = some (.type "function"))
    (lmP : K.lookup f_mP = some ⟨ocmP, odmP, .func (PySem.W.fnOf "__init__" "BadTies.__init__" (defArgs s_BadTies_init) (defBody s_BadTies_init) (defScope s_BadTies_init) .none kVmP dcmP pmmP anmP cdmP ctmP), slmP⟩)
    (cmP : PySem.W.codeIn K cdmP "BadTies.__init__" = true)
    (kmP : PySem.W.keepIn K (.ref f_mP) = true)
    (amQ : PySem.W.findIn K (.ref CN) "__init__" = some (some (.ref f_mQ)))
    (imQ : PySem.W.typeIn K (.ref f_mQ) = some (.type "function"))
    (lmQ : K.lookup f_mQ = some ⟨ocmQ, odmQ, .func (PySem.W.fnOf "__init__" "NoTie.__init__" (defArgs s_NoTie_init) (defBody s_NoTie_init) (defScope s_NoTie_init) .none kVmQ dcmQ pmmQ anmQ cdmQ ctmQ), slmQ⟩)
    (cmQ : PySem.W.codeIn K cdmQ "NoTie.__init__" = true)
    (kmQ : PySem.W.keepIn K (.ref f_mQ) = true)
    (xCB : K.lookup CB = some (excClassObj nmCB qCB CB NCB bsCB [.ref GE, .type "ValueError", .type "Exception", .type "BaseException", .type "object"] true snCB subCB abCB colCB ddCB m0CB m1CB m2CB m3CB m5CB "ValueError.__new__"))
    (saCB : PySem.W.findIn K (.ref CB) "__setattr__" = some (some (.builtin "object.__setattr__")))
    (gaCB : PySem.W.findIn K (.ref CB) "__getattribute__" = some (some (.builtin "BaseException.__getattribute__")))
    (ggCB : PySem.W.findIn K (.ref CB) "__getattr__" = some none)
    (noCB : PySem.W.findIn K (.ref CB) "what" = some none)
    (kcCB : PySem.W.keepIn K (.ref CB) = true)
    (exCB : PySem.W.subIn K (.ref CB) (.type "BaseException") = some true)
    (tyCB : PySem.W.typeIn K (.ref CB) = some (.type "type"))
    (hdCB : PySem.W.hasDictIn K CB = true)
    (icCB : PySem.W.isClsIn K CB = true)
    (scCB : PySem.W.subIn K (.ref CB) (.ref CB) = some true)
    (xCN : K.lookup CN = some (excClassObj nmCN qCN CN NCN bsCN [.ref GE, .type "ValueError", .type "Exception", .type "BaseException", .type "object"] true snCN subCN abCN colCN ddCN m0CN m1CN m2CN m3CN m5CN "ValueError.__new__"))
    (saCN : PySem.W.findIn K (.ref CN) "__setattr__" = some (some (.builtin "object.__setattr__")))
    (gaCN : PySem.W.findIn K (.ref CN) "__getattribute__" = some (some (.builtin "BaseException.__getattribute__")))
    (ggCN : PySem.W.findIn K (.ref CN) "__getattr__" = some none)
    (noCN : PySem.W.findIn K (.ref CN) "tie" = some none)
    (kcCN : PySem.W.keepIn K (.ref CN) = true)
    (exCN : PySem.W.subIn K (.ref CN) (.type "BaseException") = some true)
    (tyCN : PySem.W.typeIn K (.ref CN) = some (.type "type"))
    (hdCN : PySem.W.hasDictIn K CN = true)
    (icCN : PySem.W.isClsIn K CN = true)
    (scCN : PySem.W.subIn K (.ref CN) (.ref CN) = some true)
    (pg : PySem.W.plainGet K CT Str.empty = true)
    (hd : PySem.W.hasDictIn K CT = true)
    (po : PySem.W.plainOver K CT = true)
    (sa : PySem.W.findIn K (.ref CT) "__setattr__" = some (some (.builtin "object.__setattr__")))
    (mk : PySem.W.makesIn K CT = true)
    (kc : PySem.W.keepIn K (.ref CT) = true)
    (nB : PySem.W.findIn K (.ref CT) "backs" = some none)
    (nM : PySem.W.findIn K (.ref CT) "many" = some none)
    (ha : PySem.W.findIn K (.ref CT) "__class__" = some (some (.builtin "object.__class__")))
    (hn : PySem.W.specialIn K (.builtin "object.__class__") "__get__" = some (some (.builtin "getset_descriptor.__get__")))
    (htk : PySem.W.takesIn K (.builtin "object.__class__") = some true)
    (hm : PySem.W.mroIn K CT (.type "object") = some true)
    (icT : PySem.W.isClsIn K CT = true)
    (tyT : PySem.W.typeIn K (.ref CT) = some (.type "type"))
    (suT : PySem.W.subIn K (.type "tuple") (.ref CT) = some false)
    (nf : PySem.W.notFirst K CT (.type "tuple") = true)
    (gM : PySem.W.nsIn K mainGlobals "MOST_TIES" = some (some (.int 4 tM)))
    (gL : PySem.W.nsIn K mainGlobals "MOST_LABEL" = some (some (.int 1000000000 tL)))
    (z_len : PySem.W.nsIn K mainGlobals "len" = some none)
    (z_all : PySem.W.nsIn K mainGlobals "all" = some none)
    (z_isinstance : PySem.W.nsIn K mainGlobals "isinstance" = some none)
    (z_int : PySem.W.nsIn K mainGlobals "int" = some none)
    (z_bool : PySem.W.nsIn K mainGlobals "bool" = some none)
    (z_list : PySem.W.nsIn K mainGlobals "list" = some none)
    (z_tuple : PySem.W.nsIn K mainGlobals "tuple" = some none)
    (z_range : PySem.W.nsIn K mainGlobals "range" = some none)
    (z_abs : PySem.W.nsIn K mainGlobals "abs" = some none)
    (z_enumerate : PySem.W.nsIn K mainGlobals "enumerate" = some none)
    : ∃ fd : FuncData, (∀ (s : Shared) (v : Value), BindsTo s fd ⟨[v], []⟩ [("_law_script", v)]) ∧ ∀ base : Heap, K.In base → base.Ns mainGlobals mg → FnOk l.prog w K mg base CX0 7 fa fd ["_law_script"] (spLaw K) := by
  have e := hfa.symm.trans (PySem.W.mg_of X G aV)
  cases e
  have FW := fun_mk (st := s_is_whole) lW cW kW
  have bW := FW.binds (ps := ["thing", "low", "high"]) fun _ _ _ _ _ _ us hl => match us, hl with | [_, _, _], _ => rfl
  have FL := fun_mk (st := s_is_label) lL cL kL
  have bL := FL.binds (ps := ["thing"]) fun _ _ _ _ _ _ us hl => match us, hl with | [_], _ => rfl
  have FQ := fun_mk (st := s_is_sequence) lQ cQ kQ
  have bQ := FQ.binds (ps := ["thing"]) fun _ _ _ _ _ _ us hl => match us, hl with | [_], _ => rfl
  have FC := fun_mk (st := s_ties_fault) lC cC kC
  have bC := FC.binds (ps := ["backs"]) fun _ _ _ _ _ _ us hl => match us, hl with | [_], _ => rfl
  have FY := fun_mk (st := s_Lsays) lY cY kY
  have bY := FY.binds (ps := ["_law_told", "_law_due_here"]) fun _ _ _ _ _ _ us hl => match us, hl with | [_, _], _ => rfl
  have FX := fun_mk (st := s_Lmix) lX cX kX
  have bX := FX.binds (ps := ["_law_number", "_law_turn"]) fun _ _ _ _ _ _ us hl => match us, hl with | [_, _], _ => rfl
  have FH := fun_mk (st := s_Lhand) lH cH kH
  have bH := FH.binds (ps := ["_law_script"]) fun _ _ _ _ _ _ us hl => match us, hl with | [_], _ => rfl
  have FD := fun_mk (st := s_Ldraw) lD cD kD
  have bD := FD.binds (ps := ["_law_hand_here", "_law_many"]) fun _ _ _ _ _ _ us hl => match us, hl with | [_, _], _ => rfl
  have FK := fun_mk (st := s_Lbacks) lK cK kK
  have bK := FK.binds (ps := ["_law_hand_here", "_law_many"]) fun _ _ _ _ _ _ us hl => match us, hl with | [_, _], _ => rfl
  have FU := fun_mk (st := s_Ldue) lU cU kU
  have bU := FU.binds (ps := ["_law_thing_here"]) fun _ _ _ _ _ _ us hl => match us, hl with | [_], _ => rfl
  have FT := fun_mk (st := s_Lthing) lT cT kT
  have bT := FT.binds (ps := ["_law_hand_here"]) fun _ _ _ _ _ _ us hl => match us, hl with | [_], _ => rfl
  have FM := fun_mk (st := s_Lmade) lM cM kM
  have bM := FM.binds (ps := ["_law_thing_here"]) fun _ _ _ _ _ _ us hl => match us, hl with | [_], _ => rfl
  have FN := fun_mk (st := s_Lno_tie) lN cN kN
  have bN := FN.binds (ps := ["_law_ties", "_law_thing_here", "_law_way"]) fun _ _ _ _ _ _ us hl => match us, hl with | [_, _, _], _ => rfl
  have FR := fun_mk (st := s_Lright) lR cR kR
  have bR := FR.binds (ps := ["_law_ties", "_law_backs_here"]) fun _ _ _ _ _ _ us hl => match us, hl with | [_, _], _ => rfl
  have FZ := fun_mk (st := s_Lwhole) lZ cZ kZ
  have bZ := FZ.binds (ps := ["_law_hand_here"]) fun _ _ _ _ _ _ us hl => match us, hl with | [_], _ => rfl
  have FV := fun_mk (st := s_law) lV cV kV
  have bV := FV.binds (ps := ["_law_script"]) fun _ _ _ _ _ _ us hl => match us, hl with | [_], _ => rfl
  have FmI := fun_mk (st := s_Ties_init) lmI cmI kmI
  have bmI := FmI.binds (ps := ["self", "backs"]) fun _ _ _ _ _ _ us hl => match us, hl with | [_, _], _ => rfl
  have FmE := fun_mk (st := s_Ties_eq) lmE cmE kmE
  have bmE := FmE.binds (ps := ["self", "other"]) fun _ _ _ _ _ _ us hl => match us, hl with | [_, _], _ => rfl
  have FmH := fun_mk (st := s_Ties_has) lmH cmH kmH
  have bmH := FmH.binds (ps := ["self", "thing"]) fun _ _ _ _ _ _ us hl => match us, hl with | [_, _], _ => rfl
  have FmB := fun_mk (st := s_Ties_back) lmB cmB kmB
  have bmB := FmB.binds (ps := ["self", "tie"]) fun _ _ _ _ _ _ us hl => match us, hl with | [_, _], _ => rfl
  have FmO := fun_mk (st := s_Ties_one_way) lmO cmO kmO
  have bmO := FmO.binds (ps := ["self", "tie"]) fun _ _ _ _ _ _ us hl => match us, hl with | [_, _], _ => rfl
  have FmP := fun_mk (st := s_BadTies_init) lmP cmP kmP
  have bmP := FmP.binds (ps := ["self", "what"]) fun _ _ _ _ _ _ us hl => match us, hl with | [_, _], _ => rfl
  have FmQ := fun_mk (st := s_NoTie_init) lmQ cmQ kmQ
  have bmQ := FmQ.binds (ps := ["self", "tie"]) fun _ _ _ _ _ _ us hl => match us, hl with | [_, _], _ => rfl
  have n_len := PySem.W.mg_none_of X G z_len
  have n_all := PySem.W.mg_none_of X G z_all
  have n_isinstance := PySem.W.mg_none_of X G z_isinstance
  have n_int := PySem.W.mg_none_of X G z_int
  have n_bool := PySem.W.mg_none_of X G z_bool
  have n_list := PySem.W.mg_none_of X G z_list
  have n_tuple := PySem.W.mg_none_of X G z_tuple
  have n_range := PySem.W.mg_none_of X G z_range
  have n_abs := PySem.W.mg_none_of X G z_abs
  have n_enumerate := PySem.W.mg_none_of X G z_enumerate
  have mM := PySem.W.mg_of X G gM
  have mL := PySem.W.mg_of X G gL
  have TC : TiC K CT := ⟨⟨pg, hd, po, sa⟩, nB, nM⟩
  have TX : TiX K mg CT := { toTiC := TC, isc := ⟨⟨pg, hd, po, sa⟩, ha, hn, htk, hm, kit_me⟩, nt := kit_no icT tyT suT, nf := nf, mT := PySem.W.mg_of X G aCT }
  have oCB : OexC K CB := ⟨⟨_, _, _, _, _, _, _, _, _, _, _, _, _, _, _, xCB, by first | rfl | decide +kernel⟩, saCB, exCB, tyCB, kcCB⟩
  have xfCB : XfC K CB := ⟨gaCB, ggCB, exCB, hdCB⟩
  have oCN : OexC K CN := ⟨⟨_, _, _, _, _, _, _, _, _, _, _, _, _, _, _, xCN, by first | rfl | decide +kernel⟩, saCN, exCN, tyCN, kcCN⟩
  have xfCN : XfC K CN := ⟨gaCN, ggCN, exCN, hdCN⟩
  refine ⟨PySem.W.fnOf "law" "law" (defArgs s_law) (defBody s_law) (defScope s_law) .none kVV dcV pmV anV cdV ctV, fun s v => .of_eq rfl, fun base KB GB => ?_⟩
  have exB : Ex l.prog w K mg base "BadTies" "what" CB f_mP _ ["self", "what"] := ⟨oCB, amP, imP, ok_BadTies_init FmP oCB noCB, bmP, PySem.W.mg_of X G aCB, xfCB, noCB, exm_own exCB icCB tyCB scCB⟩
  have exN : Ex l.prog w K mg base "NoTie" "tie" CN f_mQ _ ["self", "tie"] := ⟨oCN, amQ, imQ, ok_NoTie_init FmQ oCN noCN, bmQ, PySem.W.mg_of X G aCN, xfCN, noCN, exm_own exCN icCN tyCN scCN⟩
  have GW : Cal l.prog w K mg base CX0 1 "is_whole" f_W _ ["thing", "low", "high"] spWhole := ⟨ok_is_whole FW n_isinstance n_int n_bool, PySem.W.mg_of X G aW, kW, bW⟩
  have GL : Cal l.prog w K mg base CX0 2 "is_label" f_L _ ["thing"] spLabel := ⟨ok_is_label FL GW ⟨_, mL⟩, PySem.W.mg_of X G aL, kL, bL⟩
  have GQ : Cal l.prog w K mg base CX0 1 "is_sequence" f_Q _ ["thing"] spSeq := ⟨ok_is_sequence FQ n_isinstance n_list n_tuple, PySem.W.mg_of X G aQ, kQ, bQ⟩
  have GC : Cal l.prog w K mg base CX0 2 "ties_fault" f_C _ ["backs"] spFault := ⟨ok_ties_fault FC n_len n_range n_all ⟨_, mM⟩ GQ GW, PySem.W.mg_of X G aC, kC, bC⟩
  have GY : Cal l.prog w K mg base CX0 1 "_law_says" f_Y _ ["_law_told", "_law_due_here"] spSays := ⟨ok_Lsays FY n_isinstance n_bool, PySem.W.mg_of X G aY, kY, bY⟩
  have GX : Cal l.prog w K mg base CX0 1 "_law_mix" f_X _ ["_law_number", "_law_turn"] spMix := ⟨ok_Lmix FX n_int, PySem.W.mg_of X G aX, kX, bX⟩
  have GH : Cal l.prog w K mg base CX0 1 "_law_hand" f_H _ ["_law_script"] (spHand K) := ⟨ok_Lhand FH n_int n_abs n_enumerate, PySem.W.mg_of X G aH, kH, bH⟩
  have GD : Cal l.prog w K mg base CX0 2 "_law_draw" f_D _ ["_law_hand_here", "_law_many"] spDraw := ⟨ok_Ldraw FD n_int n_len GX, PySem.W.mg_of X G aD, kD, bD⟩
  have GK : Cal l.prog w K mg base CX0 3 "_law_backs" f_K _ ["_law_hand_here", "_law_many"] spBacks := ⟨ok_Lbacks FK n_list n_len n_range GD, PySem.W.mg_of X G aK, kK, bK⟩
  have GU : Cal l.prog w K mg base CX0 1 "_law_due" f_U _ ["_law_thing_here"] spDue := ⟨ok_Ldue FU n_len n_tuple n_list n_isinstance n_int n_bool n_range, PySem.W.mg_of X G aU, kU, bU⟩
  have GT : Cal l.prog w K mg base CX0 4 "_law_thing" f_T _ ["_law_hand_here"] spThing := ⟨ok_Lthing FT n_tuple n_len n_range GD GK, PySem.W.mg_of X G aT, kT, bT⟩
  have MI : Mk K CT f_mI := ⟨mk, amI, imI, kc⟩
  have FI := ok_Ties_init (P := l.prog) (w := w) (base := base) FmI TC n_len n_tuple GC exB
  have GM : Cal l.prog w K mg base CX0 6 "_law_made" f_M _ ["_law_thing_here"] (spMade CT) := ⟨ok_Lmade FM TX MI FI bmI exB, PySem.W.mg_of X G aM, kM, bM⟩
  have GH2 : Mt l.prog w K mg base CX0 2 CT "has" f_mH _ ["self", "thing"] (spHas CT) := ⟨⟨amH, imH, kmH⟩, ok_Ties_has FmH TC GW, bmH⟩
  have GB2 : Mt l.prog w K mg base (L2.CX l.prog w) 3 CT "back" f_mB _ ["self", "tie"] (spBack CT CN) := ⟨⟨amB, imB, kmB⟩, ok_Ties_back FmB TC GH2 exN, bmB⟩
  have GO2 : Mt l.prog w K mg base (L2.CX l.prog w) 4 CT "one_way" f_mO _ ["self", "tie"] (spOneWay CT CN) := ⟨⟨amO, imO, kmO⟩, ok_Ties_one_way FmO TC GB2, bmO⟩
  have GN : Cal l.prog w K mg base CX0 5 "_law_no_tie" f_N _ ["_law_ties", "_law_thing_here", "_law_way"] (spNoTie CT) := ⟨ok_Lno_tie FN TC n_isinstance n_bool GB2 GO2 exN, PySem.W.mg_of X G aN, kN, bN⟩
  have GR : Cal l.prog w K mg base CX0 6 "_law_right" f_R _ ["_law_ties", "_law_backs_here"] (spRight CT) := ⟨ok_Lright FR TX n_isinstance n_bool n_int n_tuple n_list n_len n_range GB2 GO2 GY GN, PySem.W.mg_of X G aR, kR, bR⟩
  have GZ : Cal l.prog w K mg base CX0 3 "_law_whole" f_Z _ ["_law_hand_here"] spLw := ⟨ok_Lwhole FZ GD GW GL GY, PySem.W.mg_of X G aZ, kZ, bZ⟩
  exact ok_law FV TX n_isinstance n_list n_tuple n_range ⟨_, mM⟩ ⟨_, mL⟩ MI FI bmI GH GT GU GM GR GK GD GY (ok_Ties_eq FmE TX n_isinstance) amE imE bmE GZ
theorem walk {l : PySem.W.OpenLaw} {q : Program} {loose : List Str} {XP : (Str → Option Value) → Heap → Prop} {YP : World → Heap → Prop} {d : DefRec} {K : Params → PySem.W.Frag} (hn : l.most = some 63) (hdf : d.params.defaults = [])
    (hY : ∀ (w : World) (h : Heap), YP w h → (K w.params).In h)
    (F : ∀ (w : World) (mg : Str → Option Value) (fa : Addr) (h : Heap), (K w.params).In h → h.Ns mainGlobals mg → mg d.name = some (.ref fa) →
      ∃ fd : FuncData, (∀ (s : Shared) (u : Value), BindsTo s fd ⟨[u], []⟩ [("_law_script", u)]) ∧ ∀ base : Heap, (K w.params).In base → base.Ns mainGlobals mg → FnOk l.prog w (K w.params) mg base CX0 7 fa fd ["_law_script"] (spLaw (K w.params))) :
    PySem.W.WalkO q loose XP YP l.row.toRowW d [] (fun f vs => PySem.call f vs) :=
  L2.walk_of (n := 63) (k := 7) (x := "_law_script") (CX := fun _ => CX0) (sp := fun w => spLaw (K w.params)) hn (by decide) hdf ⟨rfl, by decide, by decide⟩ hY F (fun _ _ a ns hl _ hS => ⟨a, ns, rfl, hS, hl, fun _ => rfl⟩) fun _ _ _ _ _ z => z
end J

set_option Elab.async false
open PySem PySem.W PyProof.Rows in
set_option maxRecDepth 100000 in
set_option maxHeartbeats 0 in
theorem PySem.Challenge.cw_joinedguests_k01_ties_made_and_refused_holds : PySem.Challenge.rw_joinedguests_k01_ties_made_and_refused.Holds := by
  w_on; o_law; k_head; (case hw => w_witness2)
  k_fill
  refine J.walk (l := PySem.Challenge.rw_joinedguests_k01_ties_made_and_refused) rfl rfl (fun w h Y => PySem.W.kIn_of Y) ?F
  case F =>
    intro w mg fa h KX G hmg
    refine' J.all_mk KX G hmg ?aCT ?aCB ?aCN ?aW ?lW ?cW ?kW ?aL ?lL ?cL ?kL ?aQ ?lQ ?cQ ?kQ ?aC ?lC ?cC ?kC ?aY ?lY ?cY ?kY ?aX ?lX ?cX ?kX ?aH ?lH ?cH ?kH ?aD ?lD ?cD ?kD ?aK ?lK ?cK ?kK ?aU ?lU ?cU ?kU ?aT ?lT ?cT ?kT ?aM ?lM ?cM ?kM ?aN ?lN ?cN ?kN ?aR ?lR ?cR ?kR ?aZ ?lZ ?cZ ?kZ ?aV ?lV ?cV ?kV ?amI ?imI ?lmI ?cmI ?kmI ?amE ?imE ?lmE ?cmE ?kmE ?amH ?imH ?lmH ?cmH ?kmH ?amB ?imB ?lmB ?cmB ?kmB ?amO ?imO ?lmO ?cmO ?kmO ?amP ?imP ?lmP ?cmP ?kmP ?amQ ?imQ ?lmQ ?cmQ ?kmQ ?xCB ?saCB ?gaCB ?ggCB ?noCB ?kcCB ?exCB ?tyCB ?hdCB ?icCB ?scCB ?xCN ?saCN ?gaCN ?ggCN ?noCN ?kcCN ?exCN ?tyCN ?hdCN ?icCN ?scCN ?pg ?hd ?po ?sa ?mk ?kc ?nB ?nM ?ha ?hn ?htk ?hm ?icT ?tyT ?suT ?nf ?gM ?gL ?z_len ?z_all ?z_isinstance ?z_int ?z_bool ?z_list ?z_tuple ?z_range ?z_abs ?z_enumerate
    (case aCT => k_is)
    (case aCB => k_is)
    (case aCN => k_is)
    (case aW => k_is)
    (case lW => k_is)
    (case cW => k_is)
    (case kW => k_is)
    (case aL => k_is)
    (case lL => k_is)
    (case cL => k_is)
    (case kL => k_is)
    (case aQ => k_is)
    (case lQ => k_is)
    (case cQ => k_is)
    (case kQ => k_is)
    (case aC => k_is)
    (case lC => k_is)
    (case cC => k_is)
    (case kC => k_is)
    (case aY => k_is)
    (case lY => k_is)
    (case cY => k_is)
    (case kY => k_is)
    (case aX => k_is)
    (case lX => k_is)
    (case cX => k_is)
    (case kX => k_is)
    (case aH => k_is)
    (case lH => k_is)
    (case cH => k_is)
    (case kH => k_is)
    (case aD => k_is)
    (case lD => k_is)
    (case cD => k_is)
    (case kD => k_is)
    (case aK => k_is)
    (case lK => k_is)
    (case cK => k_is)
    (case kK => k_is)
    (case aU => k_is)
    (case lU => k_is)
    (case cU => k_is)
    (case kU => k_is)
    (case aT => k_is)
    (case lT => k_is)
    (case cT => k_is)
    (case kT => k_is)
    (case aM => k_is)
    (case lM => k_is)
    (case cM => k_is)
    (case kM => k_is)
    (case aN => k_is)
    (case lN => k_is)
    (case cN => k_is)
    (case kN => k_is)
    (case aR => k_is)
    (case lR => k_is)
    (case cR => k_is)
    (case kR => k_is)
    (case aZ => k_is)
    (case lZ => k_is)
    (case cZ => k_is)
    (case kZ => k_is)
    (case aV => k_is)
    (case lV => k_is)
    (case cV => k_is)
    (case kV => k_is)
    (case amI => k_is)
    (case imI => k_is)
    (case lmI => k_is)
    (case cmI => k_is)
    (case kmI => k_is)
    (case amE => k_is)
    (case imE => k_is)
    (case lmE => k_is)
    (case cmE => k_is)
    (case kmE => k_is)
    (case amH => k_is)
    (case imH => k_is)
    (case lmH => k_is)
    (case cmH => k_is)
    (case kmH => k_is)
    (case amB => k_is)
    (case imB => k_is)
    (case lmB => k_is)
    (case cmB => k_is)
    (case kmB => k_is)
    (case amO => k_is)
    (case imO => k_is)
    (case lmO => k_is)
    (case cmO => k_is)
    (case kmO => k_is)
    (case amP => k_is)
    (case imP => k_is)
    (case lmP => k_is)
    (case cmP => k_is)
    (case kmP => k_is)
    (case amQ => k_is)
    (case imQ => k_is)
    (case lmQ => k_is)
    (case cmQ => k_is)
    (case kmQ => k_is)
    (case xCB => k_is)
    (case saCB => k_is)
    (case gaCB => k_is)
    (case ggCB => k_is)
    (case noCB => k_is)
    (case kcCB => k_is)
    (case exCB => k_is)
    (case tyCB => k_is)
    (case hdCB => k_is)
    (case icCB => k_is)
    (case scCB => first | rfl | k_is)
    (case xCN => k_is)
    (case saCN => k_is)
    (case gaCN => k_is)
    (case ggCN => k_is)
    (case noCN => k_is)
    (case kcCN => k_is)
    (case exCN => k_is)
    (case tyCN => k_is)
    (case hdCN => k_is)
    (case icCN => k_is)
    (case scCN => first | rfl | k_is)
    (case pg => k_is)
    (case hd => k_is)
    (case po => k_is)
    (case sa => k_is)
    (case mk => k_is)
    (case kc => k_is)
    (case nB => k_is)
    (case nM => k_is)
    (case ha => k_is)
    (case hn => k_is)
    (case htk => k_is)
    (case hm => k_is)
    (case icT => k_is)
    (case tyT => k_is)
    (case suT => k_is)
    (case nf => k_is)
    (case gM => k_is)
    (case gL => k_is)
    (case z_len => k_is)
    (case z_all => k_is)
    (case z_isinstance => k_is)
    (case z_int => k_is)
    (case z_bool => k_is)
    (case z_list => k_is)
    (case z_tuple => k_is)
    (case z_range => k_is)
    (case z_abs => k_is)
    (case z_enumerate => k_is)

