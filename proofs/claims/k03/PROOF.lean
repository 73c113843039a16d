import PyProof.Rows.All
import Wide.All
import OpenK.AllK
import Wide.FinOn
import HandS.ForMost
import HandS.ForExc
import HandS.Wide
import HandS.IsInst
import HandS.ExcInit
import HandS.ExcField
import HandS.Conv
import HandS.TupLe
import HandS.TryOnly
import HandS.ExcIs
import HandS.Codes
import KE.GoesMore
import HandS.Defaults
import HandS.DictComp
import HandS.DeepEq
import PySem.Challenge.RW_joinedguests_k03_companies_refused_at_th
set_option Elab.async false
set_option linter.all false
set_option maxRecDepth 100000
set_option maxHeartbeats 2000000
namespace J
open PySem PySem.Spec PyProof.Rows L2
def top (i : Nat) : Stmt := PySem.Challenge.pw_joinedguests_k03_companies_refused_at_th.main.body.getD i (.Pass ⟨0, 0, 0, 0⟩)
/-! ### a def that may be called -/
structure Cal (P : Program) (w : World) (K : PySem.W.Frag) (mg : Str → Option Value) (base : Heap) (CX : CXT) (k : Nat) (x : Str) (f : Addr) (fd : FuncData) (ps : List Str) (sp : Sp) : Prop where
  F : FnOk P w K mg base CX k f fd ps sp
  m : mg x = some (.ref f)
  kp : PySem.W.keepIn K (.ref f) = true
  b : Binds K fd ps []
section
variable {X : Cx} {CX : CXT} {k j : Nat} {x : Str} {f : Addr} {fd : FuncData} {ps : List Str} {sp : Sp} {E : XK} {p pos : Pos} {e : Expr} {es : List Expr} {t : TA}
theorem pcal (c : Cal X.prog X.w X.K X.mg X.base CX k x f fd ps sp) (hr : Room j X.A) (hx : Passes CX X E) (ha : PA X (e :: es) t) (hk : k ≤ j := by decide) (hg : Gl X x := by rfl)
    (hdb : (x == ("__debug__" : Str)) = false := by decide) (he : starEach (e :: es) X.env = (false, eval e X.env) :: starEach es X.env := by rfl) (hpl : (backTo pos (starEach es X.env)).any (·.1) = false := by rfl) :
    PE X (.Call (.Name x p) (e :: es) [] pos) (tCall sp [] E t) := pe_call c.F (hr.mono hk) hg c.m c.kp c.b .nil hx ha hdb he hpl
end
/-! ### loops over enumerate -/
theorem for_enum {K : PySem.W.Frag} {a : Addr} {xs : List V} {g : TG} {tb : TS} {D : Ends} {σ : L2.St} {H : Hp} (Pv : Nat → L2.St → Hp → Prop) (h0 : Pv 0 σ H) (hl : ∀ i σ H, i ≤ xs.length → Pv i σ H → SqL K H a xs)
    (hs : ∀ i x σ H T, xs[i]? = some x → Pv i σ H → H T = none → g (.ref T) σ (upd H T (.tup [.int (i : Nat), x])) fun σ2 H2 => tb { D with nx := Pv (i + 1), ct := Pv (i + 1), bk := D.nx } σ2 H2) (hd : ∀ σ H, Pv xs.length σ H → D.nx σ H) :
    ∃ W : Nat → Nat → L2.St → Hp → Prop, (∃ m, W 0 m σ H) ∧ ∀ i m σ H, W i m σ H →
      ((Ite K a).stop i H ∧ D.nx σ H) ∨ ((Ite K a).go i H ∧ ∃ N : L2.St → Hp → Prop, (∀ σ' H', N σ' H' → ∃ m', m' < m ∧ W (i + 1) m' σ' H') ∧ ∀ x H', (Ite K a).yld i H x H' → g x σ H' fun σ2 H2 => tb { D with nx := N, ct := N, bk := D.nx } σ2 H2) := by
  refine ⟨fun i m s h => m + i = xs.length ∧ Pv i s h, ⟨xs.length, rfl, h0⟩, ?_⟩
  rintro i m σ H ⟨em, p⟩
  have hi : i ≤ xs.length := by omega
  have q := hl i σ H hi p
  rcases Nat.lt_or_ge i xs.length with hlt | hge
  · refine .inr ⟨⟨xs, xs[i], q, by simp [hlt]⟩, Pv (i + 1), fun σ' H' p' => ⟨m - 1, by omega, by omega, p'⟩, ?_⟩
    rintro x H' ⟨T, y, rfl, hT, rfl, hy⟩
    exact hs i y σ H T (hy xs q) p hT
  · have e : i = xs.length := by omega
    subst e
    exact .inl ⟨⟨xs, q, Nat.le_refl _⟩, hd σ H p⟩

/-! ### mix -/
abbrev s_Lmix : Stmt := top 21
theorem sc_Lmix : FnScope ["_law_number", "_law_turn", "_law_once", "_law_twice"] ["_law_number", "_law_turn"] (defScope s_Lmix) := ⟨rfl, rfl, rfl, by decide +kernel, rfl, by decide +kernel, by decide +kernel⟩
def spMix : Sp := fun vs H Q _ => ∃ n t : Int, vs = [.int n, .int t] ∧ ∀ r : Int, 0 ≤ r → Q (.int r) H
section
variable {P : Program} {w : World} {K : PySem.W.Frag} {mg : Str → Option Value} {base : Heap}
theorem ok_Lmix {f : Addr} {fd : FuncData} (F : Fun K "_law_mix" "_law_mix" s_Lmix f fd) (ni : mg "int" = none) : FnOk P w K mg base CX0 1 f fd ["_law_number", "_law_turn"] spMix := by
  refine F.ok sc_Lmix (fun vs H Q E h => ?_) (fun cdv A outer s H vs Q E hr h => ?_)
  · obtain ⟨n, t, rfl, _⟩ := h
    rfl
  · obtain ⟨n, t, rfl, k⟩ := h
    refine ⟨_, (pss_cons 
  (ps_set (i := 2) sc_Lmix.nd rfl (Or.inl rfl) (pe_op op_mod (pe_callTy call_int1 (by rfl) ni (by decide +kernel) (pa_cons (pe_op op_add (pe_op op_add (pe_op op_mul (pv 0) pe_int) (pe_op op_mul (pv 1) pe_int)) pe_int) pa_nil)) pe_int)) (pss_cons 
  (ps_set (i := 3) sc_Lmix.nd rfl (Or.inl rfl) (pe_op op_mod (pe_callTy call_int1 (by rfl) ni (by decide +kernel) (pa_cons (pe_op op_add (pe_op op_add (pe_op op_mul (pv 2) (pv 2)) (pe_op op_mul (pe_op op_fdiv (pv 2) pe_int) pe_int)) (pe_op op_mul (pv 1) pe_int)) pa_nil)) pe_int)) (pss_one 
  (ps_ret (pe_op op_fdiv (pe_op op_mod (pe_callTy call_int1 (by rfl) ni (by decide +kernel) (pa_cons (pe_op op_add (pe_op op_fdiv (pe_op op_mul (pv 3) (pv 3)) pe_int) (pv 2)) pa_nil)) pe_int) pe_int))))), ?_⟩
    refine ⟨_, rfl, _, _, rfl, rfl, .inr (by decide), _, rfl, _, _, rfl, rfl, .inr (by decide), _, _, rfl, rfl, _, _, rfl, rfl, .inl ⟨_, rfl, ?_⟩⟩
    refine ⟨_, _, rfl, rfl, (by show (0 : Int) < 2147483647; decide), ?_⟩
    have b1 := Int.emod_nonneg (n * 48271 + t * 16807 + 11) (b := 2147483647) (by decide)
    have b2 := Int.emod_lt_of_pos (n * 48271 + t * 16807 + 11) (b := 2147483647) (by decide)
    generalize (n * 48271 + t * 16807 + 11) % 2147483647 = o at b1 b2 ⊢
    refine ⟨_, rfl, _, rfl, _, _, rfl, rfl, .inl ⟨by omega, by omega⟩, ?_⟩
    refine ⟨_, rfl, _, _, rfl, rfl, ⟨by decide, by decide⟩, _, _, rfl, rfl, .inr (by decide), _, _, rfl, rfl, _, rfl, _, _, rfl, rfl, .inr (by decide), _, _, rfl, rfl, .inl ⟨_, rfl, ?_⟩⟩
    refine ⟨_, _, rfl, rfl, (by show (0 : Int) < 2147483399; decide), ?_⟩
    have b3 := Int.emod_nonneg (o * o + o / 127 * 40692 + t * 69621) (b := 2147483399) (by decide)
    have b4 := Int.emod_lt_of_pos (o * o + o / 127 * 40692 + t * 69621) (b := 2147483399) (by decide)
    generalize (o * o + o / 127 * 40692 + t * 69621) % 2147483399 = u at b3 b4 ⊢
    refine ⟨_, rfl, _, rfl, _, _, rfl, rfl, .inl ⟨by omega, by omega⟩, _, _, rfl, rfl, ⟨by decide, by decide⟩, _, rfl, _, _, rfl, rfl, .inl ⟨_, rfl, ?_⟩⟩
    refine ⟨_, _, rfl, rfl, (by show (0 : Int) < 2147483563; decide), _, _, rfl, rfl, ⟨by decide, by decide⟩, k _ ?_⟩
    have b5 := Int.emod_nonneg (u * u / 1009 + o) (b := 2147483563) (by decide)
    omega
end
end J

set_option Elab.async false
set_option linter.all false
set_option maxRecDepth 100000
set_option maxHeartbeats 2000000
namespace J
open PySem PySem.Spec PyProof.Rows L2
/-! ### the hand that is drawn from -/
/-- at h the hand stands: its cells at q -/
def Hand (H : Hp) (h q : Addr) : Prop := ∃ (cs : List Int) (i r t : Int), H h = some (.lst [.ref q, .int i, .int r, .int t]) ∧ H q = some (.lst (cs.map V.int)) ∧ q ≠ h ∧ 0 ≤ i ∧ 0 ≤ r ∧ 0 ≤ t ∧ t < 2147483629 ∧ (∀ c ∈ cs, 0 ≤ c) ∧ cs.length ≤ 63
/-- all that was tracked stands as it stood, but for what is at h -/
def But (h : Addr) (H H' : Hp) : Prop := ∀ b o, b ≠ h → H b = some o → H' b = some o
theorem But.refl (h : Addr) (H : Hp) : But h H H := fun _ _ _ e => e
theorem But.trans {h : Addr} {H H1 H2 : Hp} (a : But h H H1) (b : But h H1 H2) : But h H H2 := fun c o n e => b c o n (a c o n e)
theorem But.put {h : Addr} {H : Hp} {o : HO} : But h H (upd H h o) := fun c u n e => by rw [upd_ne n]; exact e
theorem But.new {h a : Addr} {H : Hp} {o : HO} (n : H a = none) : But h H (upd H a o) := fun c u _ e => by rw [upd_ne (ne_of_none e n)]; exact e
theorem But.same {h : Addr} {H H1 : Hp} (s : Same H H1) : But h H H1 := fun c o _ e => s c o e
theorem Hand.keep {H H' : Hp} {h q : Addr} (x : Hand H h q) (s : Same H H') : Hand H' h q := by
  obtain ⟨cs, i, r, t, e1, e2, z⟩ := x
  exact ⟨cs, i, r, t, s _ _ e1, s _ _ e2, z⟩
theorem Hand.put {H : Hp} {h q a : Addr} {o : HO} (x : Hand H h q) (n1 : h ≠ a) (n2 : q ≠ a) : Hand (upd H a o) h q := by
  obtain ⟨cs, i, r, t, e1, e2, z⟩ := x
  exact ⟨cs, i, r, t, by rw [upd_ne n1]; exact e1, by rw [upd_ne n2]; exact e2, z⟩
theorem Hand.new {H : Hp} {h q a : Addr} {o : HO} (x : Hand H h q) (n : H a = none) : Hand (upd H a o) h q :=
  x.keep fun c u e => by rw [upd_ne (ne_of_none e n)]; exact e
theorem yesT {A B : Hp → Prop} {σ : L2.St} {H : Hp} (h : A H) : tYes σ H (fun b H3 => if b = true then A H3 else B H3) := by
  show if true = true then A H else B H
  rw [if_pos rfl]
  exact h
abbrev s_Lhand : Stmt := top 22
theorem sc_Lhand : FnScope ["_law_script", "_law_total", "_law_k", "_law_cell"] ["_law_script"] (defScope s_Lhand) := ⟨rfl, rfl, rfl, by decide +kernel, rfl, by decide +kernel, by decide +kernel⟩
def spHand (K : PySem.W.Frag) : Sp := fun vs H Q _ => ∃ (a : Addr) (ns : List Int), vs = [.ref a] ∧ SqL K H a (ns.map V.int) ∧ ns.length ≤ 63 ∧ ∀ (H' : Hp) (h q : Addr), Same H H' → H h = none → H q = none → Hand H' h q → Q (.ref h) H'
section
variable {P : Program} {w : World} {K : PySem.W.Frag} {mg : Str → Option Value} {base : Heap}
theorem ok_Lhand {f : Addr} {fd : FuncData} (F : Fun K "_law_hand" "_law_hand" s_Lhand f fd) (ni : mg "int" = none) (na : mg "abs" = none) (ne : mg "enumerate" = none) : FnOk P w K mg base CX0 1 f fd ["_law_script"] (spHand K) := by
  refine F.ok sc_Lhand (fun vs H Q E h => ?_) (fun cdv A outer s H vs Q E hr h => ?_)
  · obtain ⟨a, ns, rfl, _⟩ := h
    rfl
  · obtain ⟨a, ns, rfl, hS, hn, k⟩ := h
    refine ⟨_, (pss_cons 
  (ps_set (i := 1) sc_Lhand.nd rfl (Or.inl rfl) pe_int) (pss_cons 
  (ps_for PassesOwn.never rfl (pi_enum (by rfl) ne (pa_cons (pv 0) pa_nil)) (pg_tup (by rfl) (pgs_cons (pg_name (i := 2) sc_Lhand.nd rfl (Or.inl rfl)) (pgs_cons (pg_name (i := 3) sc_Lhand.nd rfl (Or.inl rfl)) pgs_nil))) (pss_one 
    (ps_set (i := 1) sc_Lhand.nd rfl (Or.inl rfl) (pe_op op_mod (pe_callTy call_int1 (by rfl) ni (by decide +kernel) (pa_cons (pe_op op_add (pe_op op_mul (pv 1) pe_int) (pe_op op_mul (pe_callTy call_int1 (by rfl) ni (by decide +kernel) (pa_cons (pv 3) pa_nil)) (pe_op op_add (pv 2) pe_int))) pa_nil)) pe_int)))) (pss_one 
  (ps_ret (pe_lst (pa_cons (pe_lc (own := [("_law_cell", 3)]) (g := gName 3) (by rfl) sc_Lhand.nd (pi_list (pv 0)) (blkOk_by (own := [("_law_cell", 3)]) (N := ["_law_script", "_law_total", "_law_k", "_law_cell"]) (sc := defScope s_Lhand) (by decide +kernel)) (fun _ _ _ _ _ => pg_name (i := 3) sc_Lhand.nd rfl (Or.inl rfl)) (fun _ _ _ _ _ => pts_nil) (fun _ _ _ _ _ => (pe_callB call_abs (by rfl) na (by decide +kernel) (pa_cons (pe_callTy call_int1 (by rfl) ni (by decide +kernel) (pa_cons (pv 3) pa_nil)) pa_nil)))) (pa_cons pe_int (pa_cons pe_int (pa_cons (pv 1) pa_nil))))))))), ?_⟩
    refine ⟨_, rfl, a, _, rfl, hS, for_enum (K := K) (a := a) (xs := ns.map V.int) (fun i σ H' => ∃ (t : Int) (v2 v3 : Option V), σ = [some (.ref a), some (.int t), v2, v3] ∧ Same H H' ∧ 0 ≤ t ∧ t < 2147483629)
      ⟨0, none, none, rfl, Same.refl H, by decide, by decide⟩ (fun i σ H' _ ⟨_, _, _, _, S, _⟩ => S.seq hS) ?_ ?_⟩
    · rintro i x σ H' T hx ⟨t, v2, v3, rfl, S, t0, t1⟩ hT
      obtain ⟨c, rfl⟩ : ∃ c, x = V.int c := by
        rw [List.getElem?_map] at hx
        cases e : ns[i]? with
        | none => rw [e] at hx; cases hx
        | some c => rw [e] at hx; exact ⟨c, (Option.some.inj hx).symm⟩
      have hi : i < 63 := by
        have q := (List.getElem?_eq_some_iff.mp hx).1
        rw [List.length_map] at q
        omega
      refine ⟨T, _, rfl, SqT.of upd_same, rfl, _, _, rfl, _, _, rfl, rfl, ?_⟩
      refine ⟨_, rfl, _, _, rfl, rfl, .inr (by decide), _, rfl, .inl ⟨_, rfl, _, rfl, _, _, rfl, rfl, _, _, rfl, rfl, .inr ⟨by omega, by omega⟩, _, _, rfl, rfl, .inl ⟨_, rfl, _, _, rfl, rfl, (by show (0 : Int) < 2147483629; decide), ?_⟩⟩⟩
      refine ⟨_, _, _, rfl, fun b o e => ?_, Int.emod_nonneg _ (by decide), Int.emod_lt_of_pos _ (by decide)⟩
      rw [upd_ne (ne_of_none (S _ _ e) hT)]
      exact S _ _ e
    · rintro σ H' ⟨t, v2, v3, rfl, S, t0, t1⟩
      refine ⟨_, rfl, a, rfl, ⟨_, S.seq hS⟩, fun D hD => ?_⟩
      refine lc_list (K := K) (a := a) (xs := ns.map V.int) (fun i H1 => Same H H1 ∧ H D = none ∧ H1 D = some (.lst ((ns.take i).map fun c => V.int (if c < 0 then -c else c)))) ⟨fun b o e => ?_, S.free hD, upd_same⟩ (fun i H1 _ ⟨S1, _⟩ => S1.seq hS) ?_ ?_
      · rw [upd_ne (ne_of_none (S _ _ e) hD)]
        exact S _ _ e
      · rintro i x H1 hx ⟨S1, D0, e1⟩
        obtain ⟨c, hc, rfl⟩ : ∃ c, ns[i]? = some c ∧ x = V.int c := by
          rw [List.getElem?_map] at hx
          cases e : ns[i]? with
          | none => rw [e] at hx; cases hx
          | some c => rw [e] at hx; exact ⟨c, rfl, (Option.some.inj hx).symm⟩
        refine ⟨rfl, yesT ?_⟩
        refine ⟨_, rfl, .inl ⟨_, rfl, _, rfl, _, e1, ?_, fun b o e => ?_, D0, ?_⟩⟩
        · rw [List.length_map, List.length_take]
          exact small1000 (by omega)
        · rw [upd_ne (ne_of_none e D0)]
          exact S1 _ _ e
        · rw [upd_same, List.take_add_one, hc, List.map_append]
          rfl
      · rintro H1 ⟨S1, D0, e1⟩
        rw [List.length_map, List.take_length] at e1
        refine ⟨_, rfl, (by show 4 ≤ sizeLine; decide), fun p hp => k _ p D (fun b o e => ?_) (S1.free hp) D0 ?_⟩
        · rw [upd_ne (ne_of_none (S1 _ _ e) hp)]
          exact S1 _ _ e
        · refine ⟨ns.map fun c => if c < 0 then -c else c, 0, 0, t, upd_same, ?_, ne_of_none e1 hp, by decide, by decide, t0, t1, ?_, by rw [List.length_map]; exact hn⟩
          · rw [upd_ne (ne_of_none e1 hp), e1, List.map_map]
            rfl
          · intro c hc
            obtain ⟨z, _, rfl⟩ := List.mem_map.mp hc
            split <;> omega
end
end J

set_option Elab.async false
set_option linter.all false
set_option maxRecDepth 100000
set_option maxHeartbeats 2000000
namespace J
open PySem PySem.Spec PyProof.Rows L2
theorem ifD {c A B : Prop} [Decidable c] (h1 : c → A) (h2 : ¬ c → B) : if decide c = true then A else B := by
  by_cases h : c
  · rw [if_pos (decide_eq_true h)]
    exact h1 h
  · rw [if_neg (by simp [h])]
    exact h2 h
theorem v_int {a b : Int} (h : a = b) : V.int a = V.int b := by rw [h]
abbrev s_Ldraw : Stmt := top 23
theorem sc_Ldraw : FnScope ["_law_hand_here", "_law_many", "_law_cell", "_law_rest"] ["_law_hand_here", "_law_many"] (defScope s_Ldraw) := ⟨rfl, rfl, rfl, by decide +kernel, rfl, by decide +kernel, by decide +kernel⟩
def spDraw : Sp := fun vs H Q _ => ∃ (h q : Addr) (m : Int), vs = [.ref h, .int m] ∧ 0 < m ∧ m < 2 ^ 62 ∧ Hand H h q ∧ ∀ (v : Int) (H' : Hp), 0 ≤ v → v < m → But h H H' → Hand H' h q → Q (.int v) H'
theorem hand_put {H : Hp} {h q : Addr} {cs : List Int} {i r t : Int} (e2 : H q = some (.lst (cs.map V.int))) (nq : q ≠ h) (i0 : 0 ≤ i) (r0 : 0 ≤ r) (t0 : 0 ≤ t) (t1 : t < 2147483629) (hc : ∀ c ∈ cs, 0 ≤ c) (hl : cs.length ≤ 63) :
    Hand (upd H h (.lst [.ref q, .int i, .int r, .int t])) h q := ⟨cs, i, r, t, upd_same, by rw [upd_ne nq]; exact e2, nq, i0, r0, t0, t1, hc, hl⟩
theorem fmod_in {a m : Int} (h : 0 < m) : 0 ≤ a.fmod m ∧ a.fmod m < m := by
  rw [Int.fmod_eq_emod_of_nonneg a (by omega)]
  exact ⟨Int.emod_nonneg _ (by omega), Int.emod_lt_of_pos _ h⟩
section
variable {P : Program} {w : World} {K : PySem.W.Frag} {mg : Str → Option Value} {base : Heap}
theorem ok_Ldraw {f fM : Addr} {fd fdM : FuncData} (F : Fun K "_law_draw" "_law_draw" s_Ldraw f fd) (ni : mg "int" = none) (nl : mg "len" = none) (GM : Cal P w K mg base CX0 1 "_law_mix" fM fdM ["_law_number", "_law_turn"] spMix) : FnOk P w K mg base CX0 2 f fd ["_law_hand_here", "_law_many"] spDraw := by
  refine F.ok sc_Ldraw (fun vs H Q E h => ?_) (fun cdv A outer s H vs Q E hr h => ?_)
  · obtain ⟨n, q, t, rfl, _⟩ := h
    rfl
  · obtain ⟨h, q, m, rfl, m0, m1, ⟨cs, i, r, t, e1, e2, nq, i0, r0, t0, t1, hc, hl⟩, k⟩ := h
    refine ⟨_, (C8.pss_cut 
  (ps_if (PW.pt (pw_and (pt_cmpR op_eq (pe_ix ix_list (pv 0) pe_int (fun _ _ => rfl)) pe_int (nomark _)) (pw_and1 (pt_cmpR op_lt (pe_ix ix_list (pv 0) pe_int (fun _ _ => rfl)) (pe_callB call_len_seq (by rfl) nl PySem.boot_len (pa_cons (pe_ix ix_list (pv 0) pe_int (fun _ _ => rfl)) pa_nil)) (nomark _))))) (pss_cons 
    (ps_set (i := 2) sc_Ldraw.nd rfl (Or.inl rfl) (pe_ix ix_list (pe_ix ix_list (pv 0) pe_int (fun _ _ => rfl)) (pe_ix ix_list (pv 0) pe_int (fun _ _ => rfl)) (fun _ _ => rfl))) (pss_cons 
    (ps_asg (pe_op op_add (pe_ix ix_list (pv 0) pe_int (fun _ _ => rfl)) pe_int) (pg_sub (pv 0) pe_int set_list)) (pss_cons 
    (ps_if (pt_cmpR op_lt (pv 2) (pe_op op_pow pe_int pe_int) (nomark _)) (pss_one 
      (ps_ret (pe_op op_modN (pe_callTy call_int1 (by rfl) ni (by decide +kernel) (pa_cons (pcal GM hr pass0 (pa_cons (pe_op op_mod (pe_callTy call_int1 (by rfl) ni (by decide +kernel) (pa_cons (pv 2) pa_nil)) pe_int) (pa_cons (pe_ix ix_list (pv 0) pe_int (fun _ _ => rfl)) pa_nil))) pa_nil)) (pv 1)))) pss_nil) (pss_one 
    (ps_asg (pv 2) (pg_sub (pv 0) pe_int set_list)))))) pss_nil) (pss_cons 
  (ps_if (pt_cmpR op_gt (pe_ix ix_list (pv 0) pe_int (fun _ _ => rfl)) pe_int (nomark _)) (pss_cons 
    (ps_set (i := 3) sc_Ldraw.nd rfl (Or.inl rfl) (pe_ix ix_list (pv 0) pe_int (fun _ _ => rfl))) (pss_cons 
    (ps_asg (pe_op op_fdivW (pv 3) (pv 1)) (pg_sub (pv 0) pe_int set_list)) (pss_one 
    (ps_ret (pe_op op_modN (pe_callTy call_int1 (by rfl) ni (by decide +kernel) (pa_cons (pv 3) pa_nil)) (pv 1)))))) pss_nil) (pss_cons 
  (ps_asg (pe_op op_mod (pe_callTy call_int1 (by rfl) ni (by decide +kernel) (pa_cons (pe_op op_add (pe_ix ix_list (pv 0) pe_int (fun _ _ => rfl)) pe_int) pa_nil)) pe_int) (pg_sub (pv 0) pe_int set_list)) (pss_one 
  (ps_ret (pe_op op_modN (pe_callTy call_int1 (by rfl) ni (by decide +kernel) (pa_cons (pcal GM hr pass0 (pa_cons (pe_ix ix_list (pv 0) pe_int (fun _ _ => rfl)) (pa_cons (pe_ix ix_list (pv 0) pe_int (fun _ _ => rfl)) pa_nil))) pa_nil)) (pv 1))))))), ?_⟩
    refine ⟨fun σ' H' => ∃ (v2 : Option V) (i r t : Int), σ' = [some (.ref h), some (.int m), v2, none] ∧ But h H H' ∧ H' h = some (.lst [.ref q, .int i, .int r, .int t]) ∧ 0 ≤ i ∧ 0 ≤ r ∧ 0 ≤ t ∧ t < 2147483629, ?_, ?_⟩
    · -- hand[2] == 0
      refine ⟨_, rfl, _, _, _, _, rfl, rfl, SqL.of e1, rfl, rfl, _, rfl, ?_⟩
      refine ifD (fun c1 => ?_) (fun c1 => iteF ⟨none, i, r, t, rfl, But.refl h H, e1, i0, r0, t0, t1⟩)
      refine ⟨_, rfl, _, _, _, _, rfl, rfl, SqL.of e1, rfl, _, rfl, _, _, _, _, rfl, rfl, SqL.of e1, rfl, _, _, rfl, .inl (SqL.of e2), _, _, rfl, rfl, _, rfl, ?_⟩
      refine ifD (fun c2 => ?_) (fun c2 => ⟨none, i, r, t, rfl, But.refl h H, e1, i0, r0, t0, t1⟩)
      rw [List.length_map] at c2
      have hi : i.toNat < cs.length := by omega
      have hic : ((i.toNat : Nat) : Int) = i := Int.toNat_of_nonneg i0
      have hat : (cs.map V.int)[i.toNat]? = some (V.int cs[i.toNat]) := by
        rw [List.getElem?_map, List.getElem?_eq_getElem hi]
        rfl
      have cp : 0 ≤ cs[i.toNat] := hc _ (List.getElem_mem hi)
      generalize cs[i.toNat] = c at hat cp
      refine ⟨_, rfl, _, _, _, _, rfl, rfl, SqL.of e1, rfl, _, rfl, _, _, _, _, rfl, rfl, SqL.of e1, rfl, _, _, _, _, rfl, rfl, SqL.of e2, at_of hic.symm hat, ?_⟩
      refine ⟨_, rfl, _, _, _, _, rfl, rfl, SqL.of e1, rfl, _, _, rfl, rfl, _, rfl, _, _, _, _, rfl, rfl, e1, rfl, ?_⟩
      have e3 : (upd H h (.lst [.ref q, .int (i + 1), .int r, .int t])) h = some (.lst [.ref q, .int (i + 1), .int r, .int t]) := upd_same
      refine ⟨_, rfl, _, _, rfl, rfl, ⟨by decide, by decide, by decide⟩, _, _, rfl, rfl, _, rfl, ?_⟩
      refine ifD (fun c3 => ?_) (fun c3 => ?_)
      · refine ⟨_, rfl, .inl ⟨_, rfl, _, _, rfl, rfl, (by show (0 : Int) < 2147483647; decide), _, rfl, _, _, _, _, rfl, rfl, SqL.of e3, rfl, _, _, rfl, fun z z0 => .inl ⟨_, rfl, _, rfl, _, _, rfl, rfl, (by show m ≠ 0; omega), ?_⟩⟩⟩
        exact k _ _ (fmod_in m0).1 (fmod_in m0).2 But.put (hand_put e2 nq (by omega) r0 t0 t1 hc hl)
      · refine ⟨_, rfl, _, rfl, _, _, _, _, rfl, rfl, e3, rfl, ?_⟩
        exact ⟨_, i + 1, c, t, rfl, But.put.trans But.put, upd_same, by omega, cp, t0, t1⟩
    · rintro σ' H' ⟨v2, i, r, t, rfl, B1, e1, i0, r0, t0, t1⟩
      have e2' := B1 _ _ nq e2
      refine ⟨_, rfl, _, _, _, _, rfl, rfl, SqL.of e1, rfl, _, _, rfl, rfl, _, rfl, ?_⟩
      refine ifD (fun c1 => ?_) (fun c1 => ?_)
      · refine ⟨_, rfl, _, _, _, _, rfl, rfl, SqL.of e1, rfl, _, rfl, _, rfl, _, _, rfl, rfl, wide_div (b := 62) m0 (by omega) (by decide) (by decide), _, rfl, _, _, _, _, rfl, rfl, e1, rfl, ?_⟩
        refine ⟨_, rfl, .inl ⟨_, rfl, _, rfl, _, _, rfl, rfl, (by show m ≠ 0; omega), ?_⟩⟩
        exact k _ _ (fmod_in m0).1 (fmod_in m0).2 (B1.trans But.put) (hand_put e2' nq i0 (Int.ediv_nonneg r0 (by omega)) t0 t1 hc hl)
      · refine ⟨_, rfl, _, _, _, _, rfl, rfl, SqL.of e1, rfl, _, _, rfl, rfl, .inl ⟨_, rfl, _, _, rfl, rfl, (by show (0 : Int) < 2147483629; decide), _, rfl, _, _, _, _, rfl, rfl, e1, rfl, ?_⟩⟩
        have e3 : (upd H' h (.lst [.ref q, .int i, .int r, .int ((t + 1) % 2147483629)])) h = some (.lst [.ref q, .int i, .int r, .int ((t + 1) % 2147483629)]) := upd_same
        refine ⟨_, rfl, _, _, _, _, rfl, rfl, SqL.of e3, rfl, _, rfl, _, _, _, _, rfl, rfl, SqL.of e3, rfl, _, _, rfl, fun z z0 => .inl ⟨_, rfl, _, rfl, _, _, rfl, rfl, (by show m ≠ 0; omega), ?_⟩⟩
        exact k _ _ (fmod_in m0).1 (fmod_in m0).2 (B1.trans But.put) (hand_put e2' nq i0 r0 (Int.emod_nonneg _ (by decide)) (Int.emod_lt_of_pos _ (by decide)) hc hl)
end
end J

set_option Elab.async false
set_option linter.all false
set_option maxRecDepth 100000
set_option maxHeartbeats 2000000
namespace J
open PySem PySem.Spec PyProof.Rows L2
/-! ### things of many kinds -/
/-- the shape of a thing -/
inductive Sh where
  | sc (v : V) | dk | lst (xs : List V) | tup (xs : List V)
def isSc : V → Bool
  | .non => true | .bl _ => true | .int _ => true | .str _ => true | _ => false
def Is (H : Hp) (x : V) : Sh → Prop
  | .sc v => x = v ∧ isSc v = true
  | .dk => ∃ a kvs, x = .ref a ∧ H a = some (.dK kvs)
  | .lst xs => ∃ a, x = .ref a ∧ H a = some (.lst xs)
  | .tup xs => ∃ a, x = .ref a ∧ H a = some (.tup xs)
def Sh.int : Sh → Bool
  | .sc (.int _) => true | _ => false
def Sh.bl : Sh → Bool
  | .sc (.bl _) => true | _ => false
def Sh.isL : Sh → Bool
  | .lst _ => true | _ => false
def Sh.isT : Sh → Bool
  | .tup _ => true | _ => false
theorem Is.keep {H H' : Hp} {x : V} {s : Sh} (h : Is H x s) (S : Same H H') : Is H' x s := by
  cases s with
  | sc v => exact h
  | dk => obtain ⟨a, kvs, e, q⟩ := h; exact ⟨a, kvs, e, S _ _ q⟩
  | lst xs => obtain ⟨a, e, q⟩ := h; exact ⟨a, e, S _ _ q⟩
  | tup xs => obtain ⟨a, e, q⟩ := h; exact ⟨a, e, S _ _ q⟩
theorem kt_NoneType_int : kitB "NoneType" "int" = some false := by decide +kernel
theorem kt_NoneType_bool : kitB "NoneType" "bool" = some false := by decide +kernel
theorem kt_NoneType_list : kitB "NoneType" "list" = some false := by decide +kernel
theorem kt_NoneType_tuple : kitB "NoneType" "tuple" = some false := by decide +kernel
theorem kt_bool_int : kitB "bool" "int" = some true := by decide +kernel
theorem kt_bool_bool : kitB "bool" "bool" = some true := by decide +kernel
theorem kt_bool_list : kitB "bool" "list" = some false := by decide +kernel
theorem kt_bool_tuple : kitB "bool" "tuple" = some false := by decide +kernel
theorem kt_int_int : kitB "int" "int" = some true := by decide +kernel
theorem kt_int_bool : kitB "int" "bool" = some false := by decide +kernel
theorem kt_int_list : kitB "int" "list" = some false := by decide +kernel
theorem kt_int_tuple : kitB "int" "tuple" = some false := by decide +kernel
theorem kt_str_int : kitB "str" "int" = some false := by decide +kernel
theorem kt_str_bool : kitB "str" "bool" = some false := by decide +kernel
theorem kt_str_list : kitB "str" "list" = some false := by decide +kernel
theorem kt_str_tuple : kitB "str" "tuple" = some false := by decide +kernel
theorem kt_dict_int : kitB "dict" "int" = some false := by decide +kernel
theorem kt_dict_bool : kitB "dict" "bool" = some false := by decide +kernel
theorem kt_dict_list : kitB "dict" "list" = some false := by decide +kernel
theorem kt_dict_tuple : kitB "dict" "tuple" = some false := by decide +kernel
theorem kt_list_int : kitB "list" "int" = some false := by decide +kernel
theorem kt_list_bool : kitB "list" "bool" = some false := by decide +kernel
theorem kt_list_list : kitB "list" "list" = some true := by decide +kernel
theorem kt_list_tuple : kitB "list" "tuple" = some false := by decide +kernel
theorem kt_tuple_int : kitB "tuple" "int" = some false := by decide +kernel
theorem kt_tuple_bool : kitB "tuple" "bool" = some false := by decide +kernel
theorem kt_tuple_list : kitB "tuple" "list" = some false := by decide +kernel
theorem kt_tuple_tuple : kitB "tuple" "tuple" = some true := by decide +kernel
theorem Is.ty {K : PySem.W.Frag} {H : Hp} {x : V} {s : Sh} (h : Is H x s) : ∃ t : String, TyX K H x (.type t) ∧ kitB t "int" = some (s.int || s.bl) ∧ kitB t "bool" = some s.bl ∧ kitB t "list" = some s.isL ∧ kitB t "tuple" = some s.isT := by
  cases s with
  | sc v =>
    obtain ⟨rfl, e⟩ := h
    cases x with
    | non => exact ⟨_, .base .non, kt_NoneType_int, kt_NoneType_bool, kt_NoneType_list, kt_NoneType_tuple⟩
    | bl b => exact ⟨_, .base (.bl b), kt_bool_int, kt_bool_bool, kt_bool_list, kt_bool_tuple⟩
    | int b => exact ⟨_, .base (.int b), kt_int_int, kt_int_bool, kt_int_list, kt_int_tuple⟩
    | str b => exact ⟨_, .base (.str b), kt_str_int, kt_str_bool, kt_str_list, kt_str_tuple⟩
    | byt b => cases e
    | flt b => cases e
    | ref b => cases e
    | ty b => cases e
  | dk => obtain ⟨a, kvs, rfl, q⟩ := h; exact ⟨_, .base (.dK q), kt_dict_int, kt_dict_bool, kt_dict_list, kt_dict_tuple⟩
  | lst xs => obtain ⟨a, rfl, q⟩ := h; exact ⟨_, .base (.lst q), kt_list_int, kt_list_bool, kt_list_list, kt_list_tuple⟩
  | tup xs => obtain ⟨a, rfl, q⟩ := h; exact ⟨_, .base (.tup q), kt_tuple_int, kt_tuple_bool, kt_tuple_list, kt_tuple_tuple⟩
/-- isinstance(x, (list, tuple)) -/
theorem kit_seq {K : PySem.W.Frag} {t : String} {a b : Bool} (h1 : kitB t "list" = some a) (h2 : kitB t "tuple" = some b) : PySem.W.kitAny K (.type t) [.type "list", .type "tuple"] = some (a || b) :=
  kitAny_cons (kit_ty h1) (fun e => by subst e; exact kitAny_cons (kit_ty h2) (fun e => by subst e; exact kitAny_nil) (fun e => by subst e; rfl)) (fun e => by subst e; rfl)
def wholeB (x : V) (lo hi : Int) : Bool := match x with
  | .int i => decide (lo ≤ i) && decide (i ≤ hi)
  | _ => false

abbrev s_is_whole : Stmt := top 9
theorem sc_is_whole : FnScope ["thing", "low", "high"] ["thing", "low", "high"] (defScope s_is_whole) := ⟨rfl, rfl, rfl, by decide +kernel, rfl, by decide +kernel, by decide +kernel⟩
def spWhole : Sp := fun vs H Q _ => ∃ (x : V) (s : Sh) (lo hi : Int), vs = [x, .int lo, .int hi] ∧ Is H x s ∧ Q (.bl (wholeB x lo hi)) H
theorem if_tr {A B : Prop} {c : Bool} (e : c = true) (h : A) : if c = true then A else B := by rw [if_pos e]; exact h
theorem if_fa {A B : Prop} {c : Bool} (e : c = false) (h : B) : if c = true then A else B := by rw [if_neg (by simp [e])]; exact h
section
variable {P : Program} {w : World} {K : PySem.W.Frag} {mg : Str → Option Value} {base : Heap}
theorem ok_is_whole {f : Addr} {fd : FuncData} (F : Fun K "is_whole" "is_whole" s_is_whole f fd) (ns : mg "isinstance" = none) (ni : mg "int" = none) (nb : mg "bool" = none) : FnOk P w K mg base CX0 1 f fd ["thing", "low", "high"] spWhole := by
  refine F.ok sc_is_whole (fun vs H Q E h => ?_) (fun cdv A outer s H vs Q E hr h => ?_)
  · obtain ⟨x, s, lo, hi, rfl, _⟩ := h
    rfl
  · obtain ⟨x, sh, lo, hi, rfl, hx, k⟩ := h
    refine ⟨_, (pss_one 
  (ps_ret (pe_and (pe_callB call_isi (by rfl) ns (by decide +kernel) (pa_cons (pv 0) (pa_cons (pe_bltn (by rfl) ni (by decide +kernel) (v := .ty "int") rfl) pa_nil))) (pe_and (pe_not (pe_callB call_isi (by rfl) ns (by decide +kernel) (pa_cons (pv 0) (pa_cons (pe_bltn (by rfl) nb (by decide +kernel) (v := .ty "bool") rfl) pa_nil)))) (pe_one (pe_chain op_le op_le (pv 1) (pv 0) (pv 2))))))), ?_⟩
    obtain ⟨t, ht, k1, k2, _⟩ := hx.ty (K := K)
    refine ⟨_, rfl, _, _, _, _, _, rfl, .ty "int", ht, kit_ty k1, _, rfl, ?_⟩
    cases e1 : sh.int with
    | true =>
      obtain ⟨i, rfl⟩ : ∃ i, sh = .sc (.int i) := by
        cases sh with
        | sc v => cases v <;> first | exact ⟨_, rfl⟩ | cases e1
        | _ => cases e1
      obtain ⟨rfl, _⟩ := hx
      refine if_tr rfl ?_
      refine ⟨_, rfl, _, _, _, _, _, rfl, .ty "bool", ht, kit_ty k2, _, rfl, _, rfl, ?_⟩
      refine if_tr rfl ?_
      refine ⟨_, rfl, _, rfl, _, _, rfl, rfl, _, rfl, ?_⟩
      by_cases c : lo ≤ i
      · refine if_tr (decide_eq_true c) ⟨_, rfl, _, _, rfl, rfl, ?_⟩
        have e : wholeB (.int i) lo hi = decide (i ≤ hi) := by
          show (decide (lo ≤ i) && decide (i ≤ hi)) = _
          rw [decide_eq_true c, Bool.true_and]
        rw [e] at k
        exact k
      · refine if_fa (decide_eq_false c) ?_
        have e : wholeB (.int i) lo hi = false := by
          show (decide (lo ≤ i) && decide (i ≤ hi)) = _
          rw [decide_eq_false c, Bool.false_and]
        rw [e] at k
        exact k
    | false =>
      have e : wholeB x lo hi = false := by
        cases sh with
        | sc v =>
          obtain ⟨rfl, _⟩ := hx
          cases x <;> first | rfl | cases e1
        | dk => obtain ⟨a, _, rfl, _⟩ := hx; rfl
        | lst => obtain ⟨a, rfl, _⟩ := hx; rfl
        | tup => obtain ⟨a, rfl, _⟩ := hx; rfl
      rw [e] at k
      cases e2 : sh.bl with
      | true =>
        refine if_tr rfl ?_
        refine ⟨_, rfl, _, _, _, _, _, rfl, .ty "bool", ht, kit_ty (e2 ▸ k2), _, rfl, _, rfl, ?_⟩
        exact if_fa rfl k
      | false => exact if_fa rfl k
abbrev s_is_label : Stmt := top 10
theorem sc_is_label : FnScope ["thing"] ["thing"] (defScope s_is_label) := ⟨rfl, rfl, rfl, by decide +kernel, rfl, by decide +kernel, by decide +kernel⟩
def spLabel : Sp := fun vs H Q _ => ∃ (x : V) (s : Sh), vs = [x] ∧ Is H x s ∧ Q (.bl (wholeB x 0 1000000000)) H
theorem ok_is_label {f fW : Addr} {fd fdW : FuncData} (F : Fun K "is_label" "is_label" s_is_label f fd) (GW : Cal P w K mg base CX0 1 "is_whole" fW fdW ["thing", "low", "high"] spWhole) (mL : ∃ t, mg "MOST_LABEL" = some (.int 1000000000 t)) : FnOk P w K mg base CX0 2 f fd ["thing"] spLabel := by
  obtain ⟨t, mL⟩ := mL
  refine F.ok sc_is_label (fun vs H Q E h => ?_) (fun cdv A outer s H vs Q E hr h => ?_)
  · obtain ⟨x, s, rfl, _⟩ := h
    rfl
  · obtain ⟨x, sh, rfl, hx, k⟩ := h
    refine ⟨_, (pss_one 
  (ps_ret (pcal GW hr pass0 (pa_cons (pv 0) (pa_cons pe_int (pa_cons (pe_glob (v := .int 1000000000) rfl mL ⟨_, rfl⟩) pa_nil)))))), ?_⟩
    exact ⟨_, rfl, x, sh, 0, 1000000000, rfl, hx, k⟩
abbrev s_is_sequence : Stmt := top 11
theorem sc_is_sequence : FnScope ["thing"] ["thing"] (defScope s_is_sequence) := ⟨rfl, rfl, rfl, by decide +kernel, rfl, by decide +kernel, by decide +kernel⟩
def spSeq : Sp := fun vs H Q _ => ∃ (x : V) (s : Sh), vs = [x] ∧ Is H x s ∧ ∀ H', Same H H' → Q (.bl (s.isL || s.isT)) H'
theorem new_same {H : Hp} {p : Addr} {o : HO} (n : H p = none) : Same H (upd H p o) := fun b u e => by
  rw [upd_ne (ne_of_none e n)]
  exact e
/-- the test isinstance(x, (list, tuple)) -/
theorem isi_seq {K : PySem.W.Frag} {H : Hp} {x : V} {s : Sh} {Q : VK} (hx : Is H x s) (k : ∀ H', Same H H' → Q (.bl (s.isL || s.isT)) H') : 2 ≤ sizeLine ∧ ∀ p, H p = none → rIsiT K [x, .ref p] (upd H p (.tup [.ty "list", .ty "tuple"])) Q := by
  refine ⟨by decide, fun p hp => ?_⟩
  have S : Same H (upd H p (.tup [.ty "list", .ty "tuple"])) := new_same hp
  obtain ⟨t, ht, _, _, k1, k2⟩ := (hx.keep S).ty (K := K)
  exact ⟨_, _, _, _, _, _, rfl, upd_same, .cons (.ty "list") (.cons (.ty "tuple") .nil), ht, kit_seq k1 k2, k _ S⟩
theorem ok_is_sequence {f : Addr} {fd : FuncData} (F : Fun K "is_sequence" "is_sequence" s_is_sequence f fd) (ns : mg "isinstance" = none) (nl : mg "list" = none) (nt : mg "tuple" = none) : FnOk P w K mg base CX0 1 f fd ["thing"] spSeq := by
  refine F.ok sc_is_sequence (fun vs H Q E h => ?_) (fun cdv A outer s H vs Q E hr h => ?_)
  · obtain ⟨x, s, rfl, _⟩ := h
    rfl
  · obtain ⟨x, sh, rfl, hx, k⟩ := h
    refine ⟨_, (pss_one 
  (ps_ret (pe_callB call_isiT (by rfl) ns (by decide +kernel) (pa_cons (pv 0) (pa_cons (pe_tup (pa_cons (pe_bltn (by rfl) nl (by decide +kernel) (v := .ty "list") rfl) (pa_cons (pe_bltn (by rfl) nt (by decide +kernel) (v := .ty "tuple") rfl) pa_nil))) pa_nil))))), ?_⟩
    exact ⟨_, rfl, isi_seq hx k⟩
end
end J

set_option Elab.async false
set_option linter.all false
set_option maxRecDepth 100000
set_option maxHeartbeats 2000000
namespace J
open PySem PySem.Spec PyProof.Rows L2
/-! ### own errors with one field -/
def spXI (C : Addr) (f : Str) : Sp := fun vs H Q _ => ∃ (a : Addr) (v : V), vs = [.ref a, v] ∧ H a = some (exo a C none) ∧ ∀ dx, H dx = none → dx ≠ a → Q .non (upd (upd H dx (exd dx [(f, v)])) a (exo a C (some dx)))
structure Ex (P : Program) (w : World) (K : PySem.W.Frag) (mg : Str → Option Value) (base : Heap) (x fld : Str) (C fI : Addr) (fd : FuncData) (ps : List Str) : Prop where
  o : OexC K C
  i : PySem.W.findIn K (.ref C) "__init__" = some (some (.ref fI))
  t : PySem.W.typeIn K (.ref fI) = some (.type "function")
  F : FnOk P w K mg base CX0 1 fI fd ps (spXI C fld)
  b : Binds K fd ps []
  m : mg x = some (.ref C)
  xf : XfC K C
  no : PySem.W.findIn K (.ref C) fld = some none
  te : PySem.W.exmOne K (.ref C) (.ref C) = some true
/-- how an error is told: new, with its field -/
def Tells (H : Hp) (C : Addr) (f : Str) (v : V) (E : XK) : Prop := ∀ d H', H d = none → Same H H' → H' d = some (.xd [(f, v)]) → E (.ref C) (some d) H'
theorem mkO_of {C : Addr} {f : Str} {v : V} {H : Hp} {Q : XK} (h : Tells H C f v Q) : [v].length ≤ 1000 ∧ ∀ a, H a = none → spXI C f (.ref a :: ([v] ++ [])) (upd H a (exo a C none))
    (fun u H2 => u = .non ∧ ∃ (d : Addr) (fs : List (Str × V)), H2 a = some (exo a C (some d)) ∧ H2 d = some (exd d fs) ∧ H d = none ∧ Q (.ref C) (some d) (upd (del H2 a) d (.xd fs))) (fun _ _ _ => False) := by
  refine ⟨(by show 1 ≤ 1000; decide), fun a ha => ⟨a, v, rfl, upd_same, fun dx hdx ne => ⟨rfl, dx, [(f, v)], upd_same, ?_, ?_, ?_⟩⟩⟩
  · rw [upd_ne ne, upd_same]
  · rw [upd_ne ne] at hdx
    exact hdx
  · rw [upd_ne ne] at hdx
    refine h _ _ hdx (fun b o e => ?_) upd_same
    rw [upd_ne (ne_of_none e hdx), del_ne (ne_of_none e ha), upd_ne (ne_of_none e ha), upd_ne (ne_of_none e hdx), upd_ne (ne_of_none e ha)]
    exact e
abbrev s_BadTies_init : Stmt := inClass (top 3) 0
abbrev s_NoTie_init : Stmt := inClass (top 4) 0
theorem sc_BadTies_init : FnScope ["self", "what"] ["self", "what"] (defScope s_BadTies_init) := ⟨rfl, rfl, rfl, by decide +kernel, rfl, by decide +kernel, by decide +kernel⟩
theorem sc_NoTie_init : FnScope ["self", "tie"] ["self", "tie"] (defScope s_NoTie_init) := ⟨rfl, rfl, rfl, by decide +kernel, rfl, by decide +kernel, by decide +kernel⟩
section
variable {P : Program} {w : World} {K : PySem.W.Frag} {mg : Str → Option Value} {base : Heap}
theorem ok_BadTies_init {f C : Addr} {fd : FuncData} (F : Fun K "__init__" "BadTies.__init__" s_BadTies_init f fd) (o : OexC K C) (no : PySem.W.findIn K (.ref C) "what" = some none) : FnOk P w K mg base CX0 1 f fd ["self", "what"] (spXI C "what") := by
  refine F.ok sc_BadTies_init (fun vs H Q E h => ?_) (fun cdv A outer s H vs Q E hr h => ?_)
  · obtain ⟨x, s, rfl, _⟩ := h
    rfl
  · obtain ⟨a, v, rfl, ha, k⟩ := h
    refine ⟨_, pss_one (ps_ost (pv 0) (pv 1)), ?_⟩
    exact ⟨_, rfl, _, rfl, a, C, rfl, o, no, .inl ⟨ha, k⟩⟩
theorem ok_NoTie_init {f C : Addr} {fd : FuncData} (F : Fun K "__init__" "NoTie.__init__" s_NoTie_init f fd) (o : OexC K C) (no : PySem.W.findIn K (.ref C) "tie" = some none) : FnOk P w K mg base CX0 1 f fd ["self", "tie"] (spXI C "tie") := by
  refine F.ok sc_NoTie_init (fun vs H Q E h => ?_) (fun cdv A outer s H vs Q E hr h => ?_)
  · obtain ⟨x, s, rfl, _⟩ := h
    rfl
  · obtain ⟨a, v, rfl, ha, k⟩ := h
    refine ⟨_, pss_one (ps_ost (pv 0) (pv 1)), ?_⟩
    exact ⟨_, rfl, _, rfl, a, C, rfl, o, no, .inl ⟨ha, k⟩⟩
end
/-! ### Ties -/
theorem bm_ : ¬ (("backs" : Str) = "many") := by decide +kernel
theorem mb_ : ¬ (("many" : Str) = "backs") := by decide +kernel
def tf (t : Addr) (n : Int) : List (Str × V) := putF "many" (.int n) (putF "backs" (.ref t) [])
theorem tf_backs (t : Addr) (n : Int) : (tf t n).lookup ("backs" : Str) = some (.ref t) := by
  unfold tf
  rw [lookup_putF, if_neg bm_, lookup_putF, if_pos rfl]
theorem tf_many (t : Addr) (n : Int) : (tf t n).lookup ("many" : Str) = some (.int n) := by
  unfold tf
  rw [lookup_putF, if_pos rfl]
theorem tf_no (t : Addr) (n : Int) {m : Str} (h1 : ¬ m = "many") (h2 : ¬ m = "backs") : (tf t n).lookup m = none := by
  unfold tf
  rw [lookup_putF, if_neg h1, lookup_putF, if_neg h2]
  all_goals rfl
def TiesAt (C : Addr) (H : Hp) (x : Addr) (ns : List Int) : Prop := ∃ dx t, H x = some (.ins C dx (tf t (ns.length : Nat))) ∧ H t = some (.tup (ns.map V.int))
theorem TiesAt.keep {C : Addr} {H H' : Hp} {x : Addr} {ns : List Int} (h : TiesAt C H x ns) (S : Same H H') : TiesAt C H' x ns := by
  obtain ⟨dx, t, a, b⟩ := h
  exact ⟨dx, t, S _ _ a, S _ _ b⟩
/-- the class Ties in the written part -/
structure TiC (K : PySem.W.Frag) (C : Addr) : Prop where
  cl : Cls K C
  nB : NoAttr K C "backs"
  nM : NoAttr K C "many"
structure Mt (P : Program) (w : World) (K : PySem.W.Frag) (mg : Str → Option Value) (base : Heap) (CX : CXT) (k : Nat) (C : Addr) (m : Str) (f : Addr) (fd : FuncData) (ps : List Str) (sp : Sp) : Prop where
  M : Meth K C m f
  F : FnOk P w K mg base CX k f fd ps sp
  b : Binds K fd ps []
abbrev s_Ties_has : Stmt := inClass (top 12) 2
abbrev s_Ties_back : Stmt := inClass (top 12) 3
theorem sc_Ties_has : FnScope ["self", "thing"] ["self", "thing"] (defScope s_Ties_has) := ⟨rfl, rfl, rfl, by decide +kernel, rfl, by decide +kernel, by decide +kernel⟩
theorem sc_Ties_back : FnScope ["self", "tie"] ["self", "tie"] (defScope s_Ties_back) := ⟨rfl, rfl, rfl, by decide +kernel, rfl, by decide +kernel, by decide +kernel⟩
def tieB (ns : List Int) (x : V) : Bool := wholeB x 0 ((ns.length : Nat) - 1)
def spHas (C : Addr) : Sp := fun vs H Q _ => ∃ (x : Addr) (ns : List Int) (v : V) (s : Sh), vs = [.ref x, v] ∧ TiesAt C H x ns ∧ Is H v s ∧ Q (.bl (tieB ns v)) H
def spBack (C CN : Addr) : Sp := fun vs H Q E => ∃ (x : Addr) (ns : List Int) (v : V) (s : Sh), vs = [.ref x, v] ∧ TiesAt C H x ns ∧ Is H v s ∧ (∀ (i : Nat) (b : Int), v = .int (i : Nat) → ns[i]? = some b → Q (.int b) H) ∧ (tieB ns v = false → Tells H CN "tie" v E)
def spOneWay (C CN : Addr) : Sp := fun vs H Q E => ∃ (x : Addr) (ns : List Int) (v : V) (s : Sh), vs = [.ref x, v] ∧ TiesAt C H x ns ∧ Is H v s ∧ (∀ (i : Nat) (b : Int), v = .int (i : Nat) → ns[i]? = some b → Q (.bl (!decide (b = (i : Nat)))) H) ∧ (tieB ns v = false → Tells H CN "tie" v E)
theorem tieB_true {ns : List Int} {v : V} (h : tieB ns v = true) : ∃ (i : Nat) (b : Int), v = .int (i : Nat) ∧ ns[i]? = some b := by
  cases v with
  | int i =>
    have h' : (decide (0 ≤ i) && decide (i ≤ (ns.length : Nat) - 1)) = true := h
    obtain ⟨h1, h2⟩ := Bool.and_eq_true_iff.mp h'
    have h1 := of_decide_eq_true h1
    have h2 := of_decide_eq_true h2
    have hl : i.toNat < ns.length := by omega
    exact ⟨i.toNat, ns[i.toNat], by rw [Int.toNat_of_nonneg h1], List.getElem?_eq_getElem hl⟩
  | _ => cases h
section
variable {P : Program} {w : World} {K : PySem.W.Frag} {mg : Str → Option Value} {base : Heap}
theorem ok_Ties_has {f C fW : Addr} {fd fdW : FuncData} (F : Fun K "has" "Ties.has" s_Ties_has f fd) (T : TiC K C) (GW : Cal P w K mg base CX0 1 "is_whole" fW fdW ["thing", "low", "high"] spWhole) : FnOk P w K mg base CX0 2 f fd ["self", "thing"] (spHas C) := by
  refine F.ok sc_Ties_has (fun vs H Q E h => ?_) (fun cdv A outer s H vs Q E hr h => ?_)
  · obtain ⟨x, ns, v, s, rfl, _⟩ := h
    rfl
  · obtain ⟨x, ns, v, s, rfl, ⟨dx, t, hx, ht⟩, hv, k⟩ := h
    refine ⟨_, (pss_one 
  (ps_ret (pcal GW hr pass0 (pa_cons (pv 1) (pa_cons pe_int (pa_cons (pe_op op_sub (pe_fld (pv 0) rfl) pe_int) pa_nil)))))), ?_⟩
    exact ⟨_, rfl, _, rfl, x, C, dx, _, _, rfl, hx, T.cl, T.nM, tf_many _ _, _, _, rfl, rfl, v, s, _, _, rfl, hv, k⟩
theorem ok_Ties_back {f C CN fH fI : Addr} {fd fdH fdI : FuncData} (F : Fun K "back" "Ties.back" s_Ties_back f fd) (T : TiC K C) (GH : Mt P w K mg base CX0 2 C "has" fH fdH ["self", "thing"] (spHas C)) (GN : Ex P w K mg base "NoTie" "tie" CN fI fdI ["self", "tie"]) :
    FnOk P w K mg base (L2.CX P w) 3 f fd ["self", "tie"] (spBack C CN) := by
  refine F.okX sc_Ties_back (fun vs H Q E h => ?_) (fun cdv A outer s H vs Q E hr h => ?_)
  · obtain ⟨x, ns, v, s, rfl, _⟩ := h
    rfl
  · obtain ⟨x, ns, v, s, rfl, hT, hv, k1, k2⟩ := h
    obtain ⟨dx, t, hx, ht⟩ := id hT
    refine ⟨_, (pss_cons 
  (ps_if (pt_not (pt_val (pe_meth (pv 0) T.cl GH.M GH.F hr GH.b .nil pass0 (pa_cons (pv 1) pa_nil)))) (pss_one 
    (ps_raise rfl (takes_of rfl rfl rfl rfl) (pmk_oex GN.o GN.i GN.t GN.F hr GN.b .nil pass0 rfl GN.m (pa_cons (pv 1) pa_nil)))) pss_nil) (pss_one 
  (ps_ret (pe_ix ix_tup (pe_fld (pv 0) rfl) (pv 1) (fun _ _ => rfl))))), ?_⟩
    refine ⟨_, rfl, x, dx, _, rfl, hx, tf_no _ _ (by decide +kernel) (by decide +kernel), _, rfl, x, ns, v, s, rfl, hT, hv, _, rfl, ?_⟩
    cases e : tieB ns v with
    | true =>
      obtain ⟨i, b, rfl, hb⟩ := tieB_true e
      refine if_fa rfl ⟨_, rfl, x, C, dx, _, _, rfl, hx, T.cl, T.nB, tf_backs _ _, _, rfl, _, _, _, _, rfl, rfl, SqT.of ht, at_of (v := .int b) rfl ?_, k1 i b rfl hb⟩
      rw [List.getElem?_map, hb]
      rfl
    | false => exact if_tr rfl ⟨_, rfl, mkO_of (k2 e)⟩
end
end J

set_option Elab.async false
set_option linter.all false
set_option maxRecDepth 100000
set_option maxHeartbeats 4000000
namespace J
open PySem PySem.Spec PyProof.Rows L2
/-! ### which word is due -/
def backB (xs : List V) (k : Nat) : Bool := match xs[k]? with
  | some (.int n) => decide (xs[n.toNat]? = some (.int (k : Nat)))
  | _ => false
def dueS (xs : List V) : Option Str :=
  if 2 ≤ xs.length ∧ xs.length ≤ 4 then
    if ∀ x ∈ xs, wholeB x 0 ((xs.length : Nat) - 1) = true then
      if ∀ k, k < xs.length → backB xs k = true then none else some "back"
    else some "tie"
  else some "count"
def due : Sh → Option Str
  | .lst xs => dueS xs
  | .tup xs => dueS xs
  | _ => some "row"
def items : Sh → List V
  | .lst xs => xs
  | .tup xs => xs
  | _ => []
def Known (H : Hp) (xs : List V) : Prop := ∀ x ∈ xs, ∃ s, Is H x s
theorem Known.keep {H H' : Hp} {xs : List V} (h : Known H xs) (S : Same H H') : Known H' xs := fun x hx => by
  obtain ⟨s, q⟩ := h x hx
  exact ⟨s, q.keep S⟩
/-- what stands behind a due of none -/
structure GoodB (ns : List Int) : Prop where
  lo : 2 ≤ ns.length
  hi : ns.length ≤ 4
  rng : ∀ n ∈ ns, 0 ≤ n ∧ n < (ns.length : Nat)
  inv : ∀ (k : Nat) (b : Int), ns[k]? = some b → ns[b.toNat]? = some (k : Int)
theorem whole_int {x : V} {hi : Int} (h : wholeB x 0 hi = true) : ∃ n : Int, x = .int n ∧ 0 ≤ n ∧ n ≤ hi := by
  cases x with
  | int i =>
    have h' : (decide (0 ≤ i) && decide (i ≤ hi)) = true := h
    obtain ⟨h1, h2⟩ := Bool.and_eq_true_iff.mp h'
    exact ⟨i, rfl, of_decide_eq_true h1, of_decide_eq_true h2⟩
  | _ => cases h
theorem whole_of {n hi : Int} (h : 0 ≤ n) (h2 : n ≤ hi) : wholeB (.int n) 0 hi = true := by
  show (decide (0 ≤ n) && decide (n ≤ hi)) = true
  rw [decide_eq_true h, decide_eq_true h2]
  rfl
theorem all_ints {hi : Int} : ∀ {xs : List V}, (∀ x ∈ xs, wholeB x 0 hi = true) → ∃ ns : List Int, xs = ns.map V.int ∧ ∀ n ∈ ns, 0 ≤ n ∧ n ≤ hi
  | [], _ => ⟨[], rfl, fun n h => by cases h⟩
  | x :: xs, h => by
    obtain ⟨n, rfl, h1, h2⟩ := whole_int (h x List.mem_cons_self)
    obtain ⟨ns, rfl, q⟩ := all_ints (xs := xs) fun y hy => h y (List.mem_cons_of_mem _ hy)
    refine ⟨n :: ns, rfl, fun m hm => ?_⟩
    rcases List.mem_cons.mp hm with rfl | hm
    · exact ⟨h1, h2⟩
    · exact q m hm
theorem ints_at {ns : List Int} {k : Nat} {b : Int} (h : ns[k]? = some b) : (ns.map V.int)[k]? = some (V.int b) := by
  rw [List.getElem?_map, h]
  rfl
theorem backB_iff {ns : List Int} {k : Nat} {b : Int} (h : ns[k]? = some b) : backB (ns.map V.int) k = decide (ns[b.toNat]? = some (k : Int)) := by
  unfold backB
  rw [ints_at h]
  show decide ((ns.map V.int)[b.toNat]? = some (V.int (k : Nat))) = _
  rw [List.getElem?_map]
  cases e : ns[b.toNat]? with
  | none => simp
  | some c => simp
theorem good_of {xs : List V} (h : dueS xs = none) : ∃ ns : List Int, xs = ns.map V.int ∧ GoodB ns := by
  unfold dueS at h
  split at h
  · rename_i h1
    split at h
    · rename_i h2
      split at h
      · rename_i h3
        obtain ⟨ns, rfl, q⟩ := all_ints h2
        rw [List.length_map] at h1 h3 q
        refine ⟨ns, rfl, h1.1, h1.2, fun n hn => ⟨(q n hn).1, by have := (q n hn).2; omega⟩, fun k b hb => ?_⟩
        have hk := (List.getElem?_eq_some_iff.mp hb).1
        have z := h3 k hk
        rw [backB_iff hb] at z
        exact of_decide_eq_true z
      · cases h
    · cases h
  · cases h
theorem due_of {ns : List Int} (g : GoodB ns) : dueS (ns.map V.int) = none := by
  unfold dueS
  rw [List.length_map, if_pos ⟨g.lo, g.hi⟩, if_pos, if_pos]
  · intro k hk
    obtain ⟨b, hb⟩ : ∃ b, ns[k]? = some b := ⟨ns[k], List.getElem?_eq_getElem hk⟩
    rw [backB_iff hb]
    exact decide_eq_true (g.inv k b hb)
  · intro x hx
    obtain ⟨n, hn, rfl⟩ := List.mem_map.mp hx
    have := g.rng n hn
    exact whole_of this.1 (by omega)
theorem Tells.mono {H H1 : Hp} {C : Addr} {f : Str} {v : V} {E : XK} (h : Tells H C f v E) (S : Same H H1) : Tells H1 C f v E := fun d H' n S1 e => h d H' (S.free n) (S.trans S1) e
theorem fault_count {xs : List V} (h : ¬ (2 ≤ xs.length ∧ xs.length ≤ 4)) : dueS xs = some ("count" : Str) := by
  unfold dueS
  rw [if_neg h]
theorem fault_tie {xs : List V} {x : V} (h : 2 ≤ xs.length ∧ xs.length ≤ 4) (hx : x ∈ xs) (e : wholeB x 0 ((xs.length : Nat) - 1) = false) : dueS xs = some ("tie" : Str) := by
  unfold dueS
  rw [if_pos h, if_neg]
  intro q
  rw [q x hx] at e
  cases e
theorem fault_back {xs : List V} {k : Nat} (h : 2 ≤ xs.length ∧ xs.length ≤ 4) (ha : ∀ x ∈ xs, wholeB x 0 ((xs.length : Nat) - 1) = true) (hk : k < xs.length) (e : backB xs k = false) : dueS xs = some ("back" : Str) := by
  unfold dueS
  rw [if_pos h, if_pos ha, if_neg]
  intro q
  rw [q k hk] at e
  cases e
theorem fault_none {xs : List V} (h : 2 ≤ xs.length ∧ xs.length ≤ 4) (ha : ∀ x ∈ xs, wholeB x 0 ((xs.length : Nat) - 1) = true) (e : ∀ k, k < xs.length → backB xs k = true) : dueS xs = none := by
  unfold dueS
  rw [if_pos h, if_pos ha, if_pos e]
def faultV : Option Str → V
  | none => .non
  | some w => .str w
abbrev s_ties_fault : Stmt := top 13
theorem sc_ties_fault : FnScope ["backs", "many", "back", "tie"] ["backs"] (defScope s_ties_fault) := ⟨rfl, rfl, rfl, by decide +kernel, rfl, by decide +kernel, by decide +kernel⟩
def spFault : Sp := fun vs H Q _ => ∃ (v : V) (s : Sh), vs = [v] ∧ Is H v s ∧ Known H (items s) ∧ ∀ H', Same H H' → Q (faultV (due s)) H'
abbrev s_Ties_init : Stmt := inClass (top 12) 0
theorem sc_Ties_init : FnScope ["self", "backs", "what"] ["self", "backs"] (defScope s_Ties_init) := ⟨rfl, rfl, rfl, by decide +kernel, rfl, by decide +kernel, by decide +kernel⟩
def spTies (C CB : Addr) : Sp := fun vs H Q E => ∃ (x dx : Addr) (v : V) (s : Sh), vs = [.ref x, v] ∧ H x = some (.ins C dx []) ∧ Is H v s ∧ Known H (items s) ∧ (∀ w, due s = some w → Tells H CB "what" (.str w) E) ∧
  (∀ ns, due s = none → items s = ns.map V.int → ∀ H', But x H H' → TiesAt C H' x ns → Q .non H')
section
variable {P : Program} {w : World} {K : PySem.W.Frag} {mg : Str → Option Value} {base : Heap}
theorem ok_ties_fault {f fS fW : Addr} {fd fdS fdW : FuncData} (F : Fun K "ties_fault" "ties_fault" s_ties_fault f fd) (nl : mg "len" = none) (nr : mg "range" = none) (na : mg "all" = none) (mM : ∃ t, mg "MOST_TIES" = some (.int 4 t))
    (GS : Cal P w K mg base CX0 1 "is_sequence" fS fdS ["thing"] spSeq) (GW : Cal P w K mg base CX0 1 "is_whole" fW fdW ["thing", "low", "high"] spWhole) : FnOk P w K mg base CX0 2 f fd ["backs"] spFault := by
  obtain ⟨tM, mM⟩ := mM
  refine F.ok sc_ties_fault (fun vs H Q E h => ?_) (fun cdv A outer s H vs Q E hr h => ?_)
  · obtain ⟨v, s, rfl, _⟩ := h
    rfl
  · obtain ⟨v, sh, rfl, hv, kn, k⟩ := h
    cases sh with
    | sc u =>
      refine ⟨_, (pss_cons 
  (ps_if (pt_not (pt_val (pcal GS hr pass0 (pa_cons (pv 0) pa_nil)))) (pss_one 
    (ps_ret pe_str)) pss_nil) (pss_cons 
  (ps_set (i := 1) sc_ties_fault.nd rfl (Or.inr rfl) (pe_callB call_len_seq (by rfl) nl PySem.boot_len (pa_cons (pv 0) pa_nil))) (pss_cons 
  (ps_if (pt_not (pt_chain op_le op_le pe_int (pv 1) (pe_glob (v := .int 4) rfl mM ⟨_, rfl⟩))) (pss_one 
    (ps_ret pe_str)) pss_nil) (pss_cons 
  (ps_if (pt_not (pt_val (pe_callB (cr_all rfl) (by rfl) na (by decide +kernel) (pa_cons (pe_lc (own := [("back", 2)]) (g := gName 2) (by rfl) sc_ties_fault.nd (pi_list (pv 0)) (blkOk_by (own := [("back", 2)]) (N := ["backs", "many", "back", "tie"]) (sc := defScope s_ties_fault) (by decide +kernel)) (fun _ _ _ _ _ => pg_name (i := 2) sc_ties_fault.nd rfl (Or.inl rfl)) (fun _ _ _ _ _ => pts_nil) (fun _ _ _ _ _ => (pcal GW hr pass0 (pa_cons (pv 2) (pa_cons pe_int (pa_cons (pe_op op_sub (pv 1) pe_int) pa_nil)))))) pa_nil)))) (pss_one 
    (ps_ret pe_str)) pss_nil) (pss_cons 
  (ps_if (pt_not (pt_val (pe_callB (cr_all rfl) (by rfl) na (by decide +kernel) (pa_cons (pe_lc (own := [("tie", 3)]) (g := gName 3) (by rfl) sc_ties_fault.nd (pi_range1 (by rfl) nr (pa_cons (pv 1) pa_nil)) (blkOk_by (own := [("tie", 3)]) (N := ["backs", "many", "back", "tie"]) (sc := defScope s_ties_fault) (by decide +kernel)) (fun _ _ _ _ _ => pg_name (i := 3) sc_ties_fault.nd rfl (Or.inl rfl)) (fun _ _ _ _ _ => pts_nil) (fun _ _ _ _ _ => (pe_cmpR op_eq (pe_ix (r := rIxL K) ix_list (pv 0) (pe_ix (r := rIxL K) ix_list (pv 0) (pv 3) (fun _ _ => rfl)) (fun _ _ => rfl)) (pv 3) (nomark _)))) pa_nil)))) (pss_one 
    (ps_ret pe_str)) pss_nil) (pss_one 
  (ps_ret pe_non))))))), ?_⟩
      exact ⟨_, rfl, _, (.sc u), rfl, hv, fun H1 S1 => ⟨_, rfl, iteT (k _ S1)⟩⟩
    | dk =>
      refine ⟨_, (pss_cons 
  (ps_if (pt_not (pt_val (pcal GS hr pass0 (pa_cons (pv 0) pa_nil)))) (pss_one 
    (ps_ret pe_str)) pss_nil) (pss_cons 
  (ps_set (i := 1) sc_ties_fault.nd rfl (Or.inr rfl) (pe_callB call_len_seq (by rfl) nl PySem.boot_len (pa_cons (pv 0) pa_nil))) (pss_cons 
  (ps_if (pt_not (pt_chain op_le op_le pe_int (pv 1) (pe_glob (v := .int 4) rfl mM ⟨_, rfl⟩))) (pss_one 
    (ps_ret pe_str)) pss_nil) (pss_cons 
  (ps_if (pt_not (pt_val (pe_callB (cr_all rfl) (by rfl) na (by decide +kernel) (pa_cons (pe_lc (own := [("back", 2)]) (g := gName 2) (by rfl) sc_ties_fault.nd (pi_list (pv 0)) (blkOk_by (own := [("back", 2)]) (N := ["backs", "many", "back", "tie"]) (sc := defScope s_ties_fault) (by decide +kernel)) (fun _ _ _ _ _ => pg_name (i := 2) sc_ties_fault.nd rfl (Or.inl rfl)) (fun _ _ _ _ _ => pts_nil) (fun _ _ _ _ _ => (pcal GW hr pass0 (pa_cons (pv 2) (pa_cons pe_int (pa_cons (pe_op op_sub (pv 1) pe_int) pa_nil)))))) pa_nil)))) (pss_one 
    (ps_ret pe_str)) pss_nil) (pss_cons 
  (ps_if (pt_not (pt_val (pe_callB (cr_all rfl) (by rfl) na (by decide +kernel) (pa_cons (pe_lc (own := [("tie", 3)]) (g := gName 3) (by rfl) sc_ties_fault.nd (pi_range1 (by rfl) nr (pa_cons (pv 1) pa_nil)) (blkOk_by (own := [("tie", 3)]) (N := ["backs", "many", "back", "tie"]) (sc := defScope s_ties_fault) (by decide +kernel)) (fun _ _ _ _ _ => pg_name (i := 3) sc_ties_fault.nd rfl (Or.inl rfl)) (fun _ _ _ _ _ => pts_nil) (fun _ _ _ _ _ => (pe_cmpR op_eq (pe_ix (r := rIxL K) ix_list (pv 0) (pe_ix (r := rIxL K) ix_list (pv 0) (pv 3) (fun _ _ => rfl)) (fun _ _ => rfl)) (pv 3) (nomark _)))) pa_nil)))) (pss_one 
    (ps_ret pe_str)) pss_nil) (pss_one 
  (ps_ret pe_non))))))), ?_⟩
      exact ⟨_, rfl, _, .dk, rfl, hv, fun H1 S1 => ⟨_, rfl, iteT (k _ S1)⟩⟩
    | lst xs =>
      obtain ⟨p, rfl, hp⟩ := hv
      refine ⟨_, (pss_cons 
  (ps_if (pt_not (pt_val (pcal GS hr pass0 (pa_cons (pv 0) pa_nil)))) (pss_one 
    (ps_ret pe_str)) pss_nil) (pss_cons 
  (ps_set (i := 1) sc_ties_fault.nd rfl (Or.inr rfl) (pe_callB call_len_seq (by rfl) nl PySem.boot_len (pa_cons (pv 0) pa_nil))) (pss_cons 
  (ps_if (pt_not (pt_chain op_le op_le pe_int (pv 1) (pe_glob (v := .int 4) rfl mM ⟨_, rfl⟩))) (pss_one 
    (ps_ret pe_str)) pss_nil) (pss_cons 
  (ps_if (pt_not (pt_val (pe_callB (cr_all rfl) (by rfl) na (by decide +kernel) (pa_cons (pe_lc (own := [("back", 2)]) (g := gName 2) (by rfl) sc_ties_fault.nd (pi_list (pv 0)) (blkOk_by (own := [("back", 2)]) (N := ["backs", "many", "back", "tie"]) (sc := defScope s_ties_fault) (by decide +kernel)) (fun _ _ _ _ _ => pg_name (i := 2) sc_ties_fault.nd rfl (Or.inl rfl)) (fun _ _ _ _ _ => pts_nil) (fun _ _ _ _ _ => (pcal GW hr pass0 (pa_cons (pv 2) (pa_cons pe_int (pa_cons (pe_op op_sub (pv 1) pe_int) pa_nil)))))) pa_nil)))) (pss_one 
    (ps_ret pe_str)) pss_nil) (pss_cons 
  (ps_if (pt_not (pt_val (pe_callB (cr_all rfl) (by rfl) na (by decide +kernel) (pa_cons (pe_lc (own := [("tie", 3)]) (g := gName 3) (by rfl) sc_ties_fault.nd (pi_range1 (by rfl) nr (pa_cons (pv 1) pa_nil)) (blkOk_by (own := [("tie", 3)]) (N := ["backs", "many", "back", "tie"]) (sc := defScope s_ties_fault) (by decide +kernel)) (fun _ _ _ _ _ => pg_name (i := 3) sc_ties_fault.nd rfl (Or.inl rfl)) (fun _ _ _ _ _ => pts_nil) (fun _ _ _ _ _ => (pe_cmpR op_eq (pe_ix (r := rIxL K) ix_list (pv 0) (pe_ix (r := rIxL K) ix_list (pv 0) (pv 3) (fun _ _ => rfl)) (fun _ _ => rfl)) (pv 3) (nomark _)))) pa_nil)))) (pss_one 
    (ps_ret pe_str)) pss_nil) (pss_one 
  (ps_ret pe_non))))))), ?_⟩
      refine ⟨_, rfl, _, .lst xs, rfl, ⟨p, rfl, hp⟩, fun H1 S1 => ⟨_, rfl, iteF ?_⟩⟩
      have h1 := S1 _ _ hp
      have kn1 : Known H1 xs := kn.keep S1
      have say : ∀ (H2 : Hp) (o : Option Str), Same H1 H2 → dueS xs = o → Q (faultV o) H2 := fun H2 o S2 e => by
        have z := k _ (S1.trans S2)
        have e2 : due (.lst xs) = o := e
        rw [e2] at z
        exact z
      refine ⟨_, rfl, p, xs, rfl, .inl (SqL.of h1), ?_⟩
      refine ⟨_, rfl, _, _, rfl, rfl, _, rfl, ?_⟩
      by_cases c1 : (2 : Int) ≤ ((xs.length : Nat) : Int)
      case neg => exact if_fa (decide_eq_false c1) ⟨_, rfl, iteT (say _ (some "count") (Same.refl _) (fault_count (by omega)))⟩
      refine if_tr (decide_eq_true c1) ⟨_, _, rfl, rfl, _, rfl, ?_⟩
      by_cases c2 : ((xs.length : Nat) : Int) ≤ 4
      case neg =>
        rw [decide_eq_false c2]
        exact iteT (say _ (some "count") (Same.refl _) (fault_count (by omega)))
      rw [decide_eq_true c2]
      refine iteF ?_
      have c12 : 2 ≤ xs.length ∧ xs.length ≤ 4 := by omega
      refine ⟨_, rfl, p, rfl, ⟨_, SqL.of h1⟩, fun D hD => ?_⟩
      refine lc_list (K := K) (a := p) (xs := xs) (fun i H2 => Same H1 H2 ∧ H1 D = none ∧ H2 D = some (.lst ((xs.take i).map fun y => V.bl (wholeB y 0 ((xs.length : Nat) - 1))))) ⟨new_same hD, hD, upd_same⟩ (fun i H2 _ ⟨S, _⟩ => SqL.of (S _ _ h1)) ?_ ?_
      · rintro i y H2 hy ⟨S2, D0, eD⟩
        have hi := (List.getElem?_eq_some_iff.mp hy).1
        obtain ⟨sy, isy⟩ := kn1 y (List.mem_of_getElem? hy)
        refine ⟨rfl, yesT ?_⟩
        refine ⟨_, rfl, _, rfl, _, _, rfl, rfl, y, sy, _, _, rfl, isy.keep S2, _, eD, small1000 (by rw [List.length_map, List.length_take]; omega), fun b o e => ?_, D0, by rw [upd_same, List.take_add_one, hy, List.map_append]; rfl⟩
        rw [upd_ne (ne_of_none e D0)]
        exact S2 _ _ e
      rintro H2 ⟨S2, D0, eD⟩
      rw [List.take_length] at eD
      refine ⟨D, xs.map fun y => wholeB y 0 ((xs.length : Nat) - 1), rfl, SqL.of (by rw [eD, List.map_map]; rfl), _, rfl, ?_⟩
      cases ea : (xs.map fun y => wholeB y 0 ((xs.length : Nat) - 1)).all id with
      | false =>
        refine iteT (say _ (some "tie") S2 ?_)
        rw [List.all_map, List.all_eq_false] at ea
        obtain ⟨x, hx, hw⟩ := ea
        exact fault_tie c12 hx (by simpa using hw)
      | true =>
        refine iteF ?_
        rw [List.all_map, List.all_eq_true] at ea
        have hall : ∀ x ∈ xs, wholeB x 0 ((xs.length : Nat) - 1) = true := fun x hx => ea x hx
        obtain ⟨ns, hns, hr2⟩ := all_ints hall
        have hln : xs.length = ns.length := by rw [hns, List.length_map]
        refine ⟨_, rfl, (xs.length : Nat), rfl, by omega, by omega, fun E' hE => ?_⟩
        refine lc_range (lo := 0) (n := xs.length) (fun i H3 => Same H2 H3 ∧ H2 E' = none ∧ H3 E' = some (.lst ((List.range i).map fun j => V.bl (backB xs j)))) ⟨new_same hE, hE, upd_same⟩ ?_ ?_
        · rintro i H3 hi ⟨S3, E0, eE⟩
          have h3 := S3 _ _ (S2 _ _ h1)
          have hi' : i < ns.length := by omega
          have hbi : ns[i]? = some ns[i] := List.getElem?_eq_getElem hi'
          have hmem := hr2 _ (List.getElem_mem hi')
          generalize ns[i] = b at hbi hmem
          have hbl : b.toNat < ns.length := by omega
          have hci : ns[b.toNat]? = some ns[b.toNat] := List.getElem?_eq_getElem hbl
          generalize ns[b.toNat] = c at hci
          have hbk := backB_iff hbi
          rw [← hns, hci] at hbk
          have val : decide (V.int c = V.int (0 + (i : Nat))) = backB xs i := by
            rw [hbk]
            by_cases z : c = (i : Int) <;> simp [z]
          refine ⟨rfl, yesT ?_⟩
          refine ⟨_, rfl, _, rfl, _, rfl, _, _, _, _, rfl, rfl, SqL.of h3, at_of (j := i) (v := .int b) (by omega) (by rw [hns]; exact ints_at hbi), _, _, _, _, rfl, rfl, SqL.of h3, at_of (j := b.toNat) (v := .int c) (by omega) (by rw [hns]; exact ints_at hci), _, rfl, rfl, _, eE, small1000 (by rw [List.length_map, List.length_range]; omega), fun b' o e => ?_, E0, ?_⟩
          · rw [upd_ne (ne_of_none e E0)]
            exact S3 _ _ e
          · rw [upd_same, val, List.range_succ, List.map_append]
            rfl
        rintro H3 ⟨S3, E0, eE⟩
        refine ⟨E', (List.range xs.length).map (backB xs), rfl, SqL.of (by rw [eE, List.map_map]; rfl), _, rfl, ?_⟩
        cases eb : ((List.range xs.length).map (backB xs)).all id with
        | false =>
          refine iteT (say _ (some "back") (S2.trans S3) ?_)
          rw [List.all_map, List.all_eq_false] at eb
          obtain ⟨j, hj, hw⟩ := eb
          exact fault_back c12 hall (List.mem_range.mp hj) (by simpa using hw)
        | true =>
          refine iteF (say _ none (S2.trans S3) ?_)
          rw [List.all_map, List.all_eq_true] at eb
          exact fault_none c12 hall fun j hj => eb j (List.mem_range.mpr hj)
    | tup xs =>
      obtain ⟨p, rfl, hp⟩ := hv
      refine ⟨_, (pss_cons 
  (ps_if (pt_not (pt_val (pcal GS hr pass0 (pa_cons (pv 0) pa_nil)))) (pss_one 
    (ps_ret pe_str)) pss_nil) (pss_cons 
  (ps_set (i := 1) sc_ties_fault.nd rfl (Or.inr rfl) (pe_callB call_len_seq (by rfl) nl PySem.boot_len (pa_cons (pv 0) pa_nil))) (pss_cons 
  (ps_if (pt_not (pt_chain op_le op_le pe_int (pv 1) (pe_glob (v := .int 4) rfl mM ⟨_, rfl⟩))) (pss_one 
    (ps_ret pe_str)) pss_nil) (pss_cons 
  (ps_if (pt_not (pt_val (pe_callB (cr_all rfl) (by rfl) na (by decide +kernel) (pa_cons (pe_lc (own := [("back", 2)]) (g := gName 2) (by rfl) sc_ties_fault.nd (pi_tup (pv 0)) (blkOk_by (own := [("back", 2)]) (N := ["backs", "many", "back", "tie"]) (sc := defScope s_ties_fault) (by decide +kernel)) (fun _ _ _ _ _ => pg_name (i := 2) sc_ties_fault.nd rfl (Or.inl rfl)) (fun _ _ _ _ _ => pts_nil) (fun _ _ _ _ _ => (pcal GW hr pass0 (pa_cons (pv 2) (pa_cons pe_int (pa_cons (pe_op op_sub (pv 1) pe_int) pa_nil)))))) pa_nil)))) (pss_one 
    (ps_ret pe_str)) pss_nil) (pss_cons 
  (ps_if (pt_not (pt_val (pe_callB (cr_all rfl) (by rfl) na (by decide +kernel) (pa_cons (pe_lc (own := [("tie", 3)]) (g := gName 3) (by rfl) sc_ties_fault.nd (pi_range1 (by rfl) nr (pa_cons (pv 1) pa_nil)) (blkOk_by (own := [("tie", 3)]) (N := ["backs", "many", "back", "tie"]) (sc := defScope s_ties_fault) (by decide +kernel)) (fun _ _ _ _ _ => pg_name (i := 3) sc_ties_fault.nd rfl (Or.inl rfl)) (fun _ _ _ _ _ => pts_nil) (fun _ _ _ _ _ => (pe_cmpR op_eq (pe_ix (r := rIxT K) ix_tup (pv 0) (pe_ix (r := rIxT K) ix_tup (pv 0) (pv 3) (fun _ _ => rfl)) (fun _ _ => rfl)) (pv 3) (nomark _)))) pa_nil)))) (pss_one 
    (ps_ret pe_str)) pss_nil) (pss_one 
  (ps_ret pe_non))))))), ?_⟩
      refine ⟨_, rfl, _, .tup xs, rfl, ⟨p, rfl, hp⟩, fun H1 S1 => ⟨_, rfl, iteF ?_⟩⟩
      have h1 := S1 _ _ hp
      have kn1 : Known H1 xs := kn.keep S1
      have say : ∀ (H2 : Hp) (o : Option Str), Same H1 H2 → dueS xs = o → Q (faultV o) H2 := fun H2 o S2 e => by
        have z := k _ (S1.trans S2)
        have e2 : due (.tup xs) = o := e
        rw [e2] at z
        exact z
      refine ⟨_, rfl, p, xs, rfl, .inr (SqT.of h1), ?_⟩
      refine ⟨_, rfl, _, _, rfl, rfl, _, rfl, ?_⟩
      by_cases c1 : (2 : Int) ≤ ((xs.length : Nat) : Int)
      case neg => exact if_fa (decide_eq_false c1) ⟨_, rfl, iteT (say _ (some "count") (Same.refl _) (fault_count (by omega)))⟩
      refine if_tr (decide_eq_true c1) ⟨_, _, rfl, rfl, _, rfl, ?_⟩
      by_cases c2 : ((xs.length : Nat) : Int) ≤ 4
      case neg =>
        rw [decide_eq_false c2]
        exact iteT (say _ (some "count") (Same.refl _) (fault_count (by omega)))
      rw [decide_eq_true c2]
      refine iteF ?_
      have c12 : 2 ≤ xs.length ∧ xs.length ≤ 4 := by omega
      refine ⟨_, rfl, p, rfl, ⟨_, SqT.of h1⟩, fun D hD => ?_⟩
      refine lc_tup (K := K) (a := p) (xs := xs) (fun i H2 => Same H1 H2 ∧ H1 D = none ∧ H2 D = some (.lst ((xs.take i).map fun y => V.bl (wholeB y 0 ((xs.length : Nat) - 1))))) ⟨new_same hD, hD, upd_same⟩ (fun i H2 _ ⟨S, _⟩ => SqT.of (S _ _ h1)) ?_ ?_
      · rintro i y H2 hy ⟨S2, D0, eD⟩
        have hi := (List.getElem?_eq_some_iff.mp hy).1
        obtain ⟨sy, isy⟩ := kn1 y (List.mem_of_getElem? hy)
        refine ⟨rfl, yesT ?_⟩
        refine ⟨_, rfl, _, rfl, _, _, rfl, rfl, y, sy, _, _, rfl, isy.keep S2, _, eD, small1000 (by rw [List.length_map, List.length_take]; omega), fun b o e => ?_, D0, by rw [upd_same, List.take_add_one, hy, List.map_append]; rfl⟩
        rw [upd_ne (ne_of_none e D0)]
        exact S2 _ _ e
      rintro H2 ⟨S2, D0, eD⟩
      rw [List.take_length] at eD
      refine ⟨D, xs.map fun y => wholeB y 0 ((xs.length : Nat) - 1), rfl, SqL.of (by rw [eD, List.map_map]; rfl), _, rfl, ?_⟩
      cases ea : (xs.map fun y => wholeB y 0 ((xs.length : Nat) - 1)).all id with
      | false =>
        refine iteT (say _ (some "tie") S2 ?_)
        rw [List.all_map, List.all_eq_false] at ea
        obtain ⟨x, hx, hw⟩ := ea
        exact fault_tie c12 hx (by simpa using hw)
      | true =>
        refine iteF ?_
        rw [List.all_map, List.all_eq_true] at ea
        have hall : ∀ x ∈ xs, wholeB x 0 ((xs.length : Nat) - 1) = true := fun x hx => ea x hx
        obtain ⟨ns, hns, hr2⟩ := all_ints hall
        have hln : xs.length = ns.length := by rw [hns, List.length_map]
        refine ⟨_, rfl, (xs.length : Nat), rfl, by omega, by omega, fun E' hE => ?_⟩
        refine lc_range (lo := 0) (n := xs.length) (fun i H3 => Same H2 H3 ∧ H2 E' = none ∧ H3 E' = some (.lst ((List.range i).map fun j => V.bl (backB xs j)))) ⟨new_same hE, hE, upd_same⟩ ?_ ?_
        · rintro i H3 hi ⟨S3, E0, eE⟩
          have h3 := S3 _ _ (S2 _ _ h1)
          have hi' : i < ns.length := by omega
          have hbi : ns[i]? = some ns[i] := List.getElem?_eq_getElem hi'
          have hmem := hr2 _ (List.getElem_mem hi')
          generalize ns[i] = b at hbi hmem
          have hbl : b.toNat < ns.length := by omega
          have hci : ns[b.toNat]? = some ns[b.toNat] := List.getElem?_eq_getElem hbl
          generalize ns[b.toNat] = c at hci
          have hbk := backB_iff hbi
          rw [← hns, hci] at hbk
          have val : decide (V.int c = V.int (0 + (i : Nat))) = backB xs i := by
            rw [hbk]
            by_cases z : c = (i : Int) <;> simp [z]
          refine ⟨rfl, yesT ?_⟩
          refine ⟨_, rfl, _, rfl, _, rfl, _, _, _, _, rfl, rfl, SqT.of h3, at_of (j := i) (v := .int b) (by omega) (by rw [hns]; exact ints_at hbi), _, _, _, _, rfl, rfl, SqT.of h3, at_of (j := b.toNat) (v := .int c) (by omega) (by rw [hns]; exact ints_at hci), _, rfl, rfl, _, eE, small1000 (by rw [List.length_map, List.length_range]; omega), fun b' o e => ?_, E0, ?_⟩
          · rw [upd_ne (ne_of_none e E0)]
            exact S3 _ _ e
          · rw [upd_same, val, List.range_succ, List.map_append]
            rfl
        rintro H3 ⟨S3, E0, eE⟩
        refine ⟨E', (List.range xs.length).map (backB xs), rfl, SqL.of (by rw [eE, List.map_map]; rfl), _, rfl, ?_⟩
        cases eb : ((List.range xs.length).map (backB xs)).all id with
        | false =>
          refine iteT (say _ (some "back") (S2.trans S3) ?_)
          rw [List.all_map, List.all_eq_false] at eb
          obtain ⟨j, hj, hw⟩ := eb
          exact fault_back c12 hall (List.mem_range.mp hj) (by simpa using hw)
        | true =>
          refine iteF (say _ none (S2.trans S3) ?_)
          rw [List.all_map, List.all_eq_true] at eb
          exact fault_none c12 hall fun j hj => eb j (List.mem_range.mpr hj)
theorem ok_Ties_init {f C CB fC fI : Addr} {fd fdC fdI : FuncData} (F : Fun K "__init__" "Ties.__init__" s_Ties_init f fd) (T : TiC K C) (nl : mg "len" = none) (nt : mg "tuple" = none)
    (GF : Cal P w K mg base CX0 2 "ties_fault" fC fdC ["backs"] spFault) (GB : Ex P w K mg base "BadTies" "what" CB fI fdI ["self", "what"]) : FnOk P w K mg base (L2.CX P w) 4 f fd ["self", "backs"] (spTies C CB) := by
  refine F.okX sc_Ties_init (fun vs H Q E h => ?_) (fun cdv A outer s H vs Q E hr h => ?_)
  · obtain ⟨x, dx, v, s, rfl, _⟩ := h
    rfl
  · obtain ⟨x, dx, v, sh, rfl, hx, hv, kn, k1, k2⟩ := h
    refine ⟨_, (pss_cons 
  (ps_set (i := 2) sc_Ties_init.nd rfl (Or.inl rfl) (pcal GF hr pass0 (pa_cons (pv 1) pa_nil))) (pss_cons 
  (ps_if (pt_cmpR op_notN (pv 2) pe_non (nomark _)) (pss_one 
    (ps_raise rfl (takes_of rfl rfl rfl rfl) (pmk_oex GB.o GB.i GB.t GB.F (hr.mono (by decide)) GB.b .nil pass0 rfl GB.m (pa_cons (pv 2) pa_nil)))) pss_nil) (pss_cons 
  (ps_fld (pv 0) (pe_callTy (T := "tuple") (r := fun xs H Q => ∃ p ys, xs = [.ref p] ∧ ((SqL K H p ys ∧ ∀ l, H l = none → Q (.ref l) (upd H l (.tup ys))) ∨ (SqT K H p ys ∧ Q (.ref p) H))) call_tuple_of (by rfl) nt (by decide +kernel) (pa_cons (pv 1) pa_nil)) rfl) (pss_one 
  (ps_fld (pv 0) (pe_callB call_len_seq (by rfl) nl PySem.boot_len (pa_cons (pe_fld (pv 0) rfl) pa_nil)) rfl))))), ?_⟩
    refine ⟨_, rfl, v, sh, rfl, hv, kn, fun H1 S1 => ?_⟩
    have k1' := k1
    cases hd : due sh with
    | some u =>
      refine ⟨_, rfl, rfl, _, rfl, if_tr (by simp [faultV]) ⟨_, rfl, mkO_of ((k1 u hd).mono S1)⟩⟩
    | none =>
      refine ⟨_, rfl, rfl, _, rfl, if_fa (by simp [faultV]) ?_⟩
      have hx1 := S1 _ _ hx
      cases sh with
      | sc u => cases hd
      | dk => cases hd
      | lst xs =>
        obtain ⟨p, rfl, hp⟩ := hv
        obtain ⟨ns, e, g⟩ := good_of hd
        subst e
        have npx : p ≠ x := ne_of hp hx (by intro z; cases z)
        have h1 := S1 _ _ hp
        refine ⟨_, rfl, p, _, rfl, .inl ⟨SqL.of h1, fun t ht => ?_⟩⟩
        have ntx : t ≠ x := (ne_of_none hx1 ht).symm
        refine ⟨_, rfl, x, C, dx, [], rfl, (by rw [upd_ne ntx.symm]; exact hx1), T.cl, T.nB, (by show 0 < 1000; decide), ?_⟩
        refine ⟨_, rfl, x, C, dx, _, _, rfl, upd_same, T.cl, T.nB, (by rw [lookup_putF, if_pos rfl]), t, _, rfl, .inr (SqT.of (by rw [upd_ne ntx, upd_same])), ?_⟩
        refine ⟨_, rfl, x, C, dx, _, rfl, upd_same, T.cl, T.nM, (by show 1 < 1000; decide), ?_⟩
        refine k2 ns hd rfl _ (fun b o nb eb => ?_) ⟨dx, t, by rw [upd_same, List.length_map]; rfl, by rw [upd_ne ntx, upd_ne ntx, upd_same]⟩
        have e1 := S1 _ _ eb
        rw [upd_ne nb, upd_ne nb, upd_ne (ne_of_none e1 ht)]
        exact e1
      | tup xs =>
        obtain ⟨p, rfl, hp⟩ := hv
        obtain ⟨ns, e, g⟩ := good_of hd
        subst e
        have npx : p ≠ x := ne_of hp hx (by intro z; cases z)
        have h1 := S1 _ _ hp
        refine ⟨_, rfl, p, _, rfl, .inr ⟨SqT.of h1, ?_⟩⟩
        refine ⟨_, rfl, x, C, dx, [], rfl, hx1, T.cl, T.nB, (by show 0 < 1000; decide), ?_⟩
        refine ⟨_, rfl, x, C, dx, _, _, rfl, upd_same, T.cl, T.nB, (by rw [lookup_putF, if_pos rfl]), p, _, rfl, .inr (SqT.of (by rw [upd_ne npx]; exact h1)), ?_⟩
        refine ⟨_, rfl, x, C, dx, _, rfl, upd_same, T.cl, T.nM, (by show 1 < 1000; decide), ?_⟩
        refine k2 ns hd rfl _ (fun b o nb eb => ?_) ⟨dx, p, by rw [upd_same, List.length_map]; rfl, by rw [upd_ne npx, upd_ne npx]; exact h1⟩
        rw [upd_ne nb, upd_ne nb]
        exact S1 _ _ eb
end
end J

set_option Elab.async false
set_option linter.all false
set_option maxRecDepth 100000
set_option maxHeartbeats 4000000
namespace J
open PySem PySem.Spec PyProof.Rows L2
def wordV : Option Str → V
  | none => .non
  | some w => .str w
def spDueX : Sp := fun vs H Q E => ∃ (v : V) (s : Sh), vs = [v] ∧ Is H v s ∧ Known H (items s) ∧ ∀ H', Same H H' → Q (wordV (due s)) H'
theorem dueS_count {xs : List V} (h : ¬ (2 ≤ xs.length ∧ xs.length ≤ 4)) : dueS xs = some ("count" : Str) := by
  unfold dueS
  rw [if_neg h]
theorem dueS_tie {xs : List V} {x : V} (h : 2 ≤ xs.length ∧ xs.length ≤ 4) (hx : x ∈ xs) (e : wholeB x 0 ((xs.length : Nat) - 1) = false) : dueS xs = some ("tie" : Str) := by
  unfold dueS
  rw [if_pos h, if_neg]
  intro q
  rw [q x hx] at e
  cases e
theorem dueS_back {xs : List V} {k : Nat} (h : 2 ≤ xs.length ∧ xs.length ≤ 4) (ha : ∀ x ∈ xs, wholeB x 0 ((xs.length : Nat) - 1) = true) (hk : k < xs.length) (e : backB xs k = false) : dueS xs = some ("back" : Str) := by
  unfold dueS
  rw [if_pos h, if_pos ha, if_neg]
  intro q
  rw [q k hk] at e
  cases e
theorem dueS_none {xs : List V} (h : 2 ≤ xs.length ∧ xs.length ≤ 4) (ha : ∀ x ∈ xs, wholeB x 0 ((xs.length : Nat) - 1) = true) (e : ∀ k, k < xs.length → backB xs k = true) : dueS xs = none := by
  unfold dueS
  rw [if_pos h, if_pos ha, if_pos e]
theorem whole_lo {n lo hi : Int} (h : ¬ lo ≤ n) : wholeB (.int n) lo hi = false := by
  show (decide (lo ≤ n) && decide (n ≤ hi)) = false
  rw [decide_eq_false h]
  rfl
theorem whole_hi {n lo hi : Int} (h : ¬ n ≤ hi) : wholeB (.int n) lo hi = false := by
  show (decide (lo ≤ n) && decide (n ≤ hi)) = false
  rw [decide_eq_false h, Bool.and_false]
theorem is_new {K : PySem.W.Frag} {H : Hp} {x : V} {s : Sh} {p : Addr} (hx : Is H x s) (hp : H p = none) : ∃ t : String, TyX K (upd H p (.tup [.ty "list", .ty "tuple"])) x (.type t) ∧ PySem.W.kitAny K (.type t) [.type "list", .type "tuple"] = some (s.isL || s.isT) := by
  obtain ⟨t, ht, _, _, k1, k2⟩ := (hx.keep (new_same hp)).ty (K := K)
  exact ⟨t, ht, kit_seq k1 k2⟩
theorem isi_seq2 {K : PySem.W.Frag} {H : Hp} {x : V} {s : Sh} {Q : VK} {p : Addr} (hx : Is H x s) (hp : H p = none) (k : ∀ H', Same H H' → Q (.bl (s.isL || s.isT)) H') : rIsiT K [x, .ref p] (upd H p (.tup [.ty "list", .ty "tuple"])) Q := (isi_seq hx k).2 p hp
section
variable {P : Program} {w : World} {K : PySem.W.Frag} {mg : Str → Option Value} {base : Heap}
end
end J

set_option Elab.async false
set_option linter.all false
set_option maxRecDepth 100000
set_option maxHeartbeats 4000000
namespace J
open PySem PySem.Spec PyProof.Rows L2
/-! ### calls that may raise, within a try -/
section
variable {X : Cx} {CX : CXT} {k : Nat} {f C : Addr} {fd : FuncData} {ps : List Str} {sp : Sp} {E : L2.St → XK} {x m : Str} {p pos apos : Pos} {e o : Expr} {es : List Expr} {ta : TE} {t : TA}
def tMethS (m : Str) (sp : Sp) (C : Addr) (E : L2.St → XK) (ta : TE) (t : TA) : TE := fun σ H Q => ta σ H fun x H1 => ∃ a dx fs, x = .ref a ∧ H1 a = some (.ins C dx fs) ∧ fs.lookup m = none ∧ t σ H1 fun vs H2 => sp (.ref a :: vs) H2 Q (E σ)
theorem pmetS {pl : Sem Bool} (he : PE X o ta) (c : Cls X.K C) (hm : Meth X.K C m f) (F : FnOk X.prog X.w X.K X.mg X.base CX k f fd ps sp) (hr : Room k X.A) (hb : Binds X.K fd ps [])
    (hx : ∀ σ, PassesAt CX X σ (E σ)) (ha : PA X (e :: es) t)
    (hst : starEach (e :: es) X.env = (false, eval e X.env) :: starEach es X.env := by rfl)
    (hpl : (backTo pos (starEach es X.env)).any (·.1) = false := by rfl)
    (ht : eval (.Call (.Attribute o m apos) (e :: es) [] pos) X.env = (do let ov ← eval o X.env; standAt apos.atName; let (f, first) ← holding [ov] (getMethod ov m pl); callWith pos f first (backTo pos (starEach (e :: es) X.env)) (backToKw pos (keywordEach [] X.env))) := by rfl) :
    PE X (.Call (.Attribute o m apos) (e :: es) [] pos) (tMethS m sp C E ta t) := by
  constructor
  intro pins s σ H Q I h
  refine PySem.W.methodCall_KW (pl := pl) (thn (he.run pins s σ H _ I h) ?_) ht
  rintro u s1 ⟨x, H1, I1, rx, a, dx, fs, ex, ea, l, q⟩
  subst ex
  obtain rfl : u = Value.ref a := rx
  apply getmeth_ok I1 ea c hm l
  refine PySem.W.callWith_K (first := [.ref a]) (h₀ := X.base) I.ok.mod.kin hm.kp (thn (ha.run pos pins s1 σ H1 _ I1 q) ?_) hst hpl
  rintro us s2 ⟨vs, H2, I2, r, q2⟩
  refine ⟨I2.kIn, ?_⟩
  exact run_fnS (us := .ref a :: us) (vs := .ref a :: vs) F hr hb (hx σ) I2 (.cons rfl r) q2
def tMakeS (C : Addr) (sp : Sp) (E : L2.St → XK) (t : TA) : TE := fun σ H Q => t σ H fun vs H1 => ∀ x dx, H1 x = none → H1 dx = none → dx ≠ x → sp (.ref x :: vs) (upd (upd H1 dx (.own x)) x (.ins C dx [])) (fun v H2 => v = .non ∧ Q (.ref x) H2) (E σ)
theorem pmakS (M : Mk X.K C f) (F : FnOk X.prog X.w X.K X.mg X.base CX k f fd ps sp) (hr : Room (k + 1) X.A) (hg : Gl X x) (hm : X.mg x = some (.ref C)) (hb : Binds X.K fd ps []) (hx : ∀ σ, PassesAt CX X σ (E σ))
    (ha : PA X (e :: es) t) (hdb : (x == ("__debug__" : Str)) = false := by decide)
    (he : starEach (e :: es) X.env = (false, eval e X.env) :: starEach es X.env := by rfl)
    (hpl : (backTo pos (starEach es X.env)).any (·.1) = false := by rfl) :
    PE X (.Call (.Name x p) (e :: es) [] pos) (tMakeS C sp E t) := by
  constructor
  intro pins s σ H Q I h
  refine wpAny_Call_Name_kw (ld_glob I hg hm ?_ hdb)
  refine PySem.W.callWith_K (h₀ := X.base) I.ok.mod.kin M.kp (thn (ha.run pos pins s σ H _ I h) ?_) he hpl
  rintro us s1 ⟨vs, H1, I1, r, q⟩
  refine ⟨I1.kIn, ?_⟩
  have hq := q (s1.heap.objs.size + 1) s1.heap.objs.size (I1.hok.fresh (Nat.le_succ _)) (I1.hok.fresh (Nat.le_refl _)) (Nat.ne_of_lt (Nat.lt_succ_self _))
  have I2 := Inv.made (C := C) I1
  have r2 : Vals (V.ref (s1.heap.objs.size + 1) :: vs) (Value.ref (s1.heap.objs.size + 1) :: us) := .cons rfl r
  have hl : (Value.ref (s1.heap.objs.size + 1) :: us).length = ps.length := by
    rw [← r2.length]
    exact F.len _ _ _ _ hq
  have bd := hb _ (Value.ref (s1.heap.objs.size + 1) :: us) I2.kIn (by rw [List.append_nil]; exact hl)
  rw [List.append_nil] at bd
  have run := F.run _ X.stack _ _ ⟨Value.ref (s1.heap.objs.size + 1) :: us, []⟩ (Value.ref (s1.heap.objs.size + 1) :: us) _ _ (E σ) (hr.make C us []) (I2.env0.make C us []) bd r2 hq
  refine wpAny_call (make_map (f := f) I1.kIn M.makes M.init (beq_iff_eq.mp M.fn) (codeAny_mono run ?_))
  intro r s' hq'
  rcases r with er | fl
  · exact hx σ pins _ _ er s' I2 hq'
  · cases fl with
    | ret u =>
      obtain ⟨v, H', I3, rv, ev, q3⟩ := I2.after hq'
      subst ev
      exact ⟨rv, V.ref (s1.heap.objs.size + 1), H', I3, rfl, q3⟩
    | next => exact hq'.elim
    | brk => exact hq'.elim
    | cont => exact hq'.elim
end
/-! ### == by the text's own __eq__ -/
def rEqOwn (C : Addr) (sp : Sp) (E : XK) : R2 := fun x y H Q => ∃ a b dx fs, x = .ref a ∧ y = .ref b ∧ H a = some (.ins C dx fs) ∧ ((∃ dy gs, H b = some (.ins C dy gs)) ∨ ∃ ys, H b = some (.tup ys)) ∧ sp [x, y] H (fun v H' => (∃ c, v = .bl c) ∧ Q v H') E
theorem op_eqOwn {X : Cx} {CX : CXT} {n : Nat} {C f : Addr} {fd : FuncData} {ps : List Str} {sp : Sp} {E : XK} (F : FnOk X.prog X.w X.K X.mg X.base CX n f fd ps sp)
    (hs : PySem.W.findIn X.K (.ref C) "__eq__" = some (some (.ref f))) (hf : PySem.W.isFn X.K (.ref f) = true) (hb : Binds X.K fd ps []) (hx : Passes CX X E) (hr : Room n X.A)
    (hn : PySem.W.notFirst X.K C (.type "tuple") = true) : OpR X (compareOp .Eq) (rEqOwn C sp E) := by
  intro pins s σ H x y v u Q I rx ry ⟨a, b, dx, fs, ex, ey, ha, hy, q⟩
  subst ex
  subst ey
  obtain rfl : v = Value.ref a := rx
  obtain rfl : u = Value.ref b := ry
  show wpAny (model X.prog X.w) X.A (richCompare .Eq (.ref a) (.ref b)) (EP X pins σ Q) X.xe s
  obtain ⟨mA, J, _⟩ := ins_get I.hok ha
  obtain ⟨od, J, _⟩ := J.look
  obtain ⟨m, hF⟩ := I.fr
  have r2 : Vals [V.ref a, V.ref b] [Value.ref a, Value.ref b] := .cons rfl (.cons rfl .nil)
  have fin : wpAny (model X.prog X.w) X.A (call (.ref f) [.ref a, .ref b]) (PySem.W.CmpBack (EP X pins σ Q)) X.xe s := by
    refine wpAny_mono (run_fn (dvs := []) (ds := []) (us := [.ref a, .ref b]) (vs := [.ref a, .ref b]) F hr hb .nil hx I r2 q) ?_ fun _ _ z => z
    rintro w s' ⟨z, H', I', rz, ⟨c, rfl⟩, qz⟩
    obtain rfl : w = Value.bool c := rz
    exact ⟨V.bl c, H', I', rfl, qz⟩
  rcases hy with ⟨dy, gs, hb'⟩ | ⟨ys, hb'⟩
  · obtain ⟨mB, J', _⟩ := ins_get I.hok hb'
    obtain ⟨od', J', _⟩ := J'.look
    exact PySem.W.cmp_K (op := .Eq) (tb := .ref C) hr.units0 hF I.ok.mod.kin J J'.type (by simp [PySem.W.notFirst]) hs hf fin
  · obtain ⟨its, rv, ⟨o, h1, h2, _⟩, _⟩ := I.tuple (SqT.of hb')
    have LT : PySem.W.Looks (model X.prog X.w) s.heap (typeOf (.ref b)) (.type "tuple") := fun A Q E s k q => wpAny_typeOf_ref (k _ _ h1) (by rw [h2]; exact q)
    exact PySem.W.cmp_K (op := .Eq) (tb := .type "tuple") hr.units0 hF I.ok.mod.kin J LT hn hs hf fin
/-! ### == of data -/
theorem eqv_ints : ∀ ns ms : List Int, PyData.eqvAll (ns.map PyData.int) (ms.map PyData.int) = decide (ns = ms)
  | [], [] => by simp [PyData.eqvAll]
  | [], m :: ms => by simp [PyData.eqvAll]
  | n :: ns, [] => by simp [PyData.eqvAll]
  | n :: ns, m :: ms => by
    have ih := eqv_ints ns ms
    simp only [List.map_cons, PyData.eqvAll, PyData.eqv, ih]
    by_cases h : n = m
    · by_cases h2 : ns = ms
      · simp [h, h2]
      · simp [h, h2]
    · simp [h]
theorem dp_ints {K : PySem.W.Frag} {H : Hp} : ∀ ns : List Int, DpAll K H (ns.map V.int) (ns.map PyData.int)
  | [] => .nil
  | n :: ns => .cons (.int n) (dp_ints ns)
theorem ints_lay : ∀ ns : List Int, PyData.canLayAll0 (ns.map PyData.int) = true
  | [] => by simp [PyData.canLayAll0]
  | n :: ns => by
    have ih := ints_lay ns
    simp only [List.map_cons, PyData.canLayAll0, ih, PyData.canLay0, Bool.and_self]
theorem ints_depth : ∀ ns : List Int, PyData.depthAll (ns.map PyData.int) ≤ 1
  | [] => by simp [PyData.depthAll]
  | n :: ns => by
    have ih := ints_depth ns
    simp only [List.map_cons, PyData.depthAll, PyData.depth]
    omega
theorem shaped_li (ns : List Int) : SeqAt.shaped (.list (ns.map PyData.int)) = true := by
  have h := ints_depth ns
  show (PyData.canLay0 (.list (ns.map PyData.int)) && decide (PyData.depth (.list (ns.map PyData.int)) ≤ 64)) = true
  rw [Bool.and_eq_true]
  refine ⟨by simp only [PyData.canLay0]; exact ints_lay ns, decide_eq_true ?_⟩
  simp only [PyData.depth]
  omega
theorem shaped_ti (ns : List Int) : SeqAt.shaped (.tuple (ns.map PyData.int)) = true := by
  have h := ints_depth ns
  show (PyData.canLay0 (.tuple (ns.map PyData.int)) && decide (PyData.depth (.tuple (ns.map PyData.int)) ≤ 64)) = true
  rw [Bool.and_eq_true]
  refine ⟨by simp only [PyData.canLay0]; exact ints_lay ns, decide_eq_true ?_⟩
  simp only [PyData.depth]
  omega
theorem eqv_li (ns ms : List Int) : PyData.eqv (.list (ns.map PyData.int)) (.list (ms.map PyData.int)) = decide (ns = ms) := by
  simp only [PyData.eqv]
  exact eqv_ints ns ms
theorem eqv_ti (ns ms : List Int) : PyData.eqv (.tuple (ns.map PyData.int)) (.tuple (ms.map PyData.int)) = decide (ns = ms) := by
  simp only [PyData.eqv]
  exact eqv_ints ns ms
end J

set_option Elab.async false
set_option linter.all false
set_option maxRecDepth 100000
set_option maxHeartbeats 4000000
namespace J
open PySem PySem.Spec PyProof.Rows L2
/-! ### backs that are drawn: the mathematics -/
structure BI (m : Nat) (ns ls : List Int) : Prop where
  len : ns.length = m
  rng : ∀ n ∈ ns, 0 ≤ n ∧ n < (m : Nat)
  inv : ∀ (k : Nat) (b : Int), ns[k]? = some b → ns[b.toNat]? = some (k : Int)
  nd : ls.Nodup
  fx : ∀ z ∈ ls, 0 ≤ z ∧ z < (m : Nat) ∧ ns[z.toNat]? = some z
theorem map_erase {α β : Type} (f : α → β) : ∀ (l : List α) (k : Nat), (l.map f).eraseIdx k = (l.eraseIdx k).map f
  | [], _ => rfl
  | a :: l, 0 => rfl
  | a :: l, k + 1 => by
    show f a :: (l.map f).eraseIdx k = f a :: (l.eraseIdx k).map f
    rw [map_erase f l k]
theorem erase_mem {l : List Int} (nd : l.Nodup) {i : Nat} {a z : Int} (ha : l[i]? = some a) (hz : z ∈ l.eraseIdx i) : z ∈ l ∧ z ≠ a := by
  obtain ⟨j, hj, e⟩ := List.mem_eraseIdx_iff_getElem?.mp hz
  refine ⟨List.mem_of_getElem? e, fun q => hj ?_⟩
  subst q
  exact nd_ix nd e ha
theorem BI.step {m : Nat} {ns ls : List Int} (B : BI m ns ls) {i j : Nat} {a b : Int} (ha : ls[i]? = some a) (hb : (ls.eraseIdx i)[j]? = some b) : BI m ((ns.set a.toNat b).set b.toNat a) ((ls.eraseIdx i).eraseIdx j) := by
  have nd1 : (ls.eraseIdx i).Nodup := B.nd.sublist (List.eraseIdx_sublist ls i)
  obtain ⟨mb, nab⟩ := erase_mem B.nd ha (List.mem_of_getElem? hb)
  have ma := List.mem_of_getElem? ha
  obtain ⟨a0, a1, af⟩ := B.fx a ma
  obtain ⟨b0, b1, bf⟩ := B.fx b mb
  have nt : b.toNat ≠ a.toNat := by omega
  have la : a.toNat < ns.length := by rw [B.len]; omega
  have lb : b.toNat < ns.length := by rw [B.len]; omega
  have get : ∀ k : Nat, ((ns.set a.toNat b).set b.toNat a)[k]? = if b.toNat = k then some a else if a.toNat = k then some b else ns[k]? := fun k => by
    rw [List.getElem?_set]
    split
    · rw [List.length_set, if_pos (by omega)]
    · rw [List.getElem?_set]
      split
      · first
          | rfl
          | rw [if_pos (by omega)]
      · rfl
  refine ⟨by rw [List.length_set, List.length_set]; exact B.len, fun n hn => ?_, fun k c hc => ?_, nd1.sublist (List.eraseIdx_sublist _ j), fun z hz => ?_⟩
  · rcases List.mem_or_eq_of_mem_set hn with hn | rfl
    · rcases List.mem_or_eq_of_mem_set hn with hn | rfl
      · exact B.rng n hn
      · exact ⟨b0, b1⟩
    · exact ⟨a0, a1⟩
  · rw [get] at hc
    split at hc
    · rename_i e
      obtain rfl := Option.some.inj hc
      rw [get, if_neg nt, if_pos rfl]
      congr 1
      omega
    · rename_i e1
      split at hc
      · rename_i e2
        obtain rfl := Option.some.inj hc
        rw [get, if_pos rfl]
        congr 1
        omega
      · rename_i e2
        have q := B.inv k c hc
        rw [get, if_neg, if_neg]
        · exact q
        · intro e
          rw [← e, af] at q
          have := Option.some.inj q
          omega
        · intro e
          rw [← e, bf] at q
          have := Option.some.inj q
          omega
  · obtain ⟨z1, zb⟩ := erase_mem nd1 hb hz
    obtain ⟨z2, za⟩ := erase_mem B.nd ha z1
    obtain ⟨c0, c1, cf⟩ := B.fx z z2
    refine ⟨c0, c1, ?_⟩
    rw [get, if_neg (by omega), if_neg (by omega)]
    exact cf
def idI (m : Nat) : List Int := (List.range m).map fun i => ((i : Nat) : Int)
theorem idI_at {m k : Nat} {b : Int} (h : (idI m)[k]? = some b) : b = k ∧ k < m := by
  unfold idI at h
  rw [List.getElem?_map] at h
  have hk : k < m := by
    have q := (List.getElem?_eq_some_iff.mp (by rw [← List.getElem?_map] at h; exact h)).1
    simpa using q
  rw [List.getElem?_range hk] at h
  exact ⟨(Option.some.inj h).symm, hk⟩
theorem idI_get {m k : Nat} (h : k < m) : (idI m)[k]? = some (k : Int) := by
  unfold idI
  rw [List.getElem?_map, List.getElem?_range h]
  rfl
theorem BI.start (m : Nat) : BI m (idI m) (idI m) := by
  have mem : ∀ n ∈ idI m, 0 ≤ n ∧ n < (m : Nat) := fun n hn => by
    obtain ⟨k, hk⟩ := List.getElem?_of_mem hn
    obtain ⟨rfl, h⟩ := idI_at hk
    omega
  refine ⟨by simp [idI], mem, fun k b hb => ?_, ?_, fun z hz => ?_⟩
  · obtain ⟨rfl, h⟩ := idI_at hb
    exact idI_get (by omega)
  · unfold idI
    exact List.Pairwise.map _ (fun a b (h : a ≠ b) => by omega) List.nodup_range
  · obtain ⟨h1, h2⟩ := mem z hz
    refine ⟨h1, h2, ?_⟩
    rw [idI_get (by omega)]
    congr 1
    omega
theorem rgV_id {m : Int} (h : 0 ≤ m) : rgV 0 m = (idI m.toNat).map V.int := by
  unfold rgV idI
  rw [List.map_map, show m - 0 = m by omega]
  refine List.map_congr_left fun i _ => ?_
  show V.int (0 + (i : Int)) = V.int (i : Int)
  rw [Int.zero_add]
theorem seq_at {i : Int} {n : Nat} (h0 : 0 ≤ i) (h : i < (n : Nat)) : seqIndex? i n = some i.toNat := by
  have h1 : ixN n i = some i.toNat := by
    unfold ixN
    rw [if_pos h0, if_pos h]
  exact (ixN_seq h1).1
theorem ixN_at {i : Int} {n : Nat} (h0 : 0 ≤ i) (h : i < (n : Nat)) : ixN n i = some i.toNat := by
  unfold ixN
  rw [if_pos h0, if_pos h]
abbrev s_Lbacks : Stmt := top 24
theorem sc_Lbacks : FnScope ["_law_hand_here", "_law_many", "_law_backs_here", "_law_left", "_law_k", "_law_one", "_law_other"] ["_law_hand_here", "_law_many"] (defScope s_Lbacks) := ⟨rfl, rfl, rfl, by decide +kernel, rfl, by decide +kernel, by decide +kernel⟩
def spBacks : Sp := fun vs H Q _ => ∃ (h q : Addr) (m : Int), vs = [.ref h, .int m] ∧ 2 ≤ m ∧ m ≤ 4 ∧ Hand H h q ∧ ∀ (ns : List Int) (p : Addr) (H' : Hp), (ns.length : Nat) = m → GoodB ns → But h H H' → H p = none → H' p = some (.lst (ns.map V.int)) → Hand H' h q → Q (.ref p) H'
theorem Hand.h_ne {H : Hp} {h q p : Addr} (x : Hand H h q) (n : H p = none) : h ≠ p ∧ q ≠ p := by
  obtain ⟨cs, i, r, t, e1, e2, _⟩ := x
  exact ⟨ne_of_none e1 n, ne_of_none e2 n⟩
theorem But.put2 {h p : Addr} {H H' : Hp} {o : HO} (B : But h H H') (n : H p = none) : But h H (upd H' p o) := fun b u nb e => by
  rw [upd_ne (ne_of_none e n)]
  exact B b u nb e
section
variable {P : Program} {w : World} {K : PySem.W.Frag} {mg : Str → Option Value} {base : Heap}
theorem ok_Lbacks {f fD : Addr} {fd fdD : FuncData} (F : Fun K "_law_backs" "_law_backs" s_Lbacks f fd) (nli : mg "list" = none) (nl : mg "len" = none) (nr : mg "range" = none)
    (GD : Cal P w K mg base CX0 2 "_law_draw" fD fdD ["_law_hand_here", "_law_many"] spDraw) : FnOk P w K mg base CX0 3 f fd ["_law_hand_here", "_law_many"] spBacks := by
  refine F.ok sc_Lbacks (fun vs H Q E h => ?_) (fun cdv A outer s H vs Q E hr h => ?_)
  · obtain ⟨h, q, m, rfl, _⟩ := h
    rfl
  · obtain ⟨h, q, m, rfl, m2, m4, hh, k⟩ := h
    refine ⟨_, (pss_cons 
  (ps_set (i := 2) sc_Lbacks.nd rfl (Or.inl rfl) (pe_listRg rfl (by rfl) nli (prg_1 (by rfl) nr (pv 1)))) (pss_cons 
  (ps_set (i := 3) sc_Lbacks.nd rfl (Or.inl rfl) (pe_listRg rfl (by rfl) nli (prg_1 (by rfl) nr (pv 1)))) (pss_cons 
  (ps_for PassesOwn.never rfl (pi_range1 (by rfl) nr (pa_cons (pe_op op_fdiv (pv 1) pe_int) pa_nil)) (pg_name (i := 4) sc_Lbacks.nd rfl (Or.inl rfl)) (pss_one 
    (ps_if (pt_cmpR op_eq (pcal GD hr pass0 (pa_cons (pv 0) (pa_cons pe_int pa_nil))) pe_int (nomark _)) (pss_cons 
      (ps_set (i := 5) sc_Lbacks.nd rfl (Or.inl rfl) (pe_bm PySem.F.plainAttrs_list PySem.F.slot_list_pop PySem.F.type_list_pop mt_popAt (pv 3) (pa_cons (pcal GD hr pass0 (pa_cons (pv 0) (pa_cons (pe_callB call_len_seq (by rfl) nl PySem.boot_len (pa_cons (pv 3) pa_nil)) pa_nil))) pa_nil))) (pss_cons 
      (ps_set (i := 6) sc_Lbacks.nd rfl (Or.inl rfl) (pe_bm PySem.F.plainAttrs_list PySem.F.slot_list_pop PySem.F.type_list_pop mt_popAt (pv 3) (pa_cons (pcal GD hr pass0 (pa_cons (pv 0) (pa_cons (pe_callB call_len_seq (by rfl) nl PySem.boot_len (pa_cons (pv 3) pa_nil)) pa_nil))) pa_nil))) (pss_cons 
      (ps_asg (pv 6) (pg_sub (pv 2) (pv 5) set_list)) (pss_one 
      (ps_asg (pv 5) (pg_sub (pv 2) (pv 6) set_list)))))) pss_nil))) (pss_one 
  (ps_ret (pv 2)))))), ?_⟩
    have rg : RgOk 0 m := RgOk.of_le (by omega) (by omega) (by omega) (by omega)
    refine ⟨_, rfl, m, rfl, rg, fun p hp => ?_⟩
    refine ⟨_, rfl, m, rfl, rg, fun l hl => ?_⟩
    rw [rgV_id (by omega)]
    rw [rgV_id (by omega)] at hl
    have npl : p ≠ l := ne_of_none upd_same hl
    have hl0 : H l = none := by
      rw [upd_ne npl.symm] at hl
      exact hl
    obtain ⟨nhp, nqp⟩ := hh.h_ne hp
    obtain ⟨nhl, nql⟩ := hh.h_ne hl0
    refine ⟨_, rfl, _, _, rfl, rfl, ⟨by decide, by decide⟩, _, rfl, by omega, by omega, for_range (lo := 0) (n := (m / 2).toNat) (fun i σ H' => ∃ (ns ls : List Int) (v4 v5 v6 : Option V), σ = [some (.ref h), some (.int m), some (.ref p), some (.ref l), v4, v5, v6] ∧
        BI m.toNat ns ls ∧ m.toNat ≤ ls.length + 2 * i ∧ ls.length ≤ m.toNat ∧ But h H H' ∧ Hand H' h q ∧ H' p = some (.lst (ns.map V.int)) ∧ H' l = some (.lst (ls.map V.int)))
      ⟨idI m.toNat, idI m.toNat, none, none, none, rfl, BI.start _, by simp [idI], by simp [idI], ((But.refl h H).put2 hp).put2 hl0, (hh.put nhp nqp).put nhl nql, by rw [upd_ne npl, upd_same], upd_same⟩ ?_ ?_⟩
    · rintro i σ H1 hi ⟨ns, ls, v4, v5, v6, rfl, B, hc, lsm, b1, h1, ep, el⟩
      have hls : 2 ≤ ls.length := by omega
      refine ⟨_, rfl, h, q, 3, rfl, by decide, by decide, h1, fun v H2 v0 v3 b2 h2 => ⟨rfl, _, rfl, ?_⟩⟩
      refine ifD (fun c => ?_) (fun c => ⟨ns, ls, _, _, _, rfl, B, by omega, lsm, b1.trans b2, h2, b2 _ _ nhp.symm ep, b2 _ _ nhl.symm el⟩)
      have ep2 := b2 _ _ nhp.symm ep
      have el2 := b2 _ _ nhl.symm el
      have lml : (ls.map V.int).length = ls.length := List.length_map _
      refine ⟨_, rfl, .inl ⟨rfl, _, SqL.of el2⟩, _, rfl, _, rfl, l, _, rfl, .inl (SqL.of el2), h, q, _, rfl, by omega, by omega, h2, fun a H3 a0 a1 b3 h3 => ?_⟩
      have ep3 := b3 _ _ nhp.symm ep2
      have el3 := b3 _ _ nhl.symm el2
      rw [lml] at a1
      have hla : a.toNat < ls.length := by omega
      have hA : ls[a.toNat]? = some ls[a.toNat] := List.getElem?_eq_getElem hla
      generalize ls[a.toNat] = x at hA
      refine ⟨l, _, a, a.toNat, .int x, rfl, rfl, el3, by omega, by omega, seq_at a0 (by omega), ints_at hA, ?_⟩
      rw [map_erase]
      have e1 : (upd H3 l (.lst ((ls.eraseIdx a.toNat).map V.int))) l = some (.lst ((ls.eraseIdx a.toNat).map V.int)) := upd_same
      have ep4 : (upd H3 l (.lst ((ls.eraseIdx a.toNat).map V.int))) p = some (.lst (ns.map V.int)) := by rw [upd_ne npl]; exact ep3
      have h4 : Hand (upd H3 l (.lst ((ls.eraseIdx a.toNat).map V.int))) h q := h3.put nhl nql
      have b4 : But h H (upd H3 l (.lst ((ls.eraseIdx a.toNat).map V.int))) := ((b1.trans b2).trans b3).put2 hl0
      have le : (ls.eraseIdx a.toNat).length = ls.length - 1 := by rw [List.length_eraseIdx, if_pos hla]
      have lml2 : ((ls.eraseIdx a.toNat).map V.int).length = ls.length - 1 := by rw [List.length_map, le]
      generalize upd H3 l (.lst ((ls.eraseIdx a.toNat).map V.int)) = H4 at e1 ep4 h4 b4
      refine ⟨_, rfl, .inl ⟨rfl, _, SqL.of e1⟩, _, rfl, _, rfl, l, _, rfl, .inl (SqL.of e1), h, q, _, rfl, by omega, by omega, h4, fun b H5 b0' b1' b5 h5 => ?_⟩
      have ep5 := b5 _ _ nhp.symm ep4
      have el5 := b5 _ _ nhl.symm e1
      rw [lml2] at b1'
      have hlb : b.toNat < (ls.eraseIdx a.toNat).length := by omega
      have hB : (ls.eraseIdx a.toNat)[b.toNat]? = some (ls.eraseIdx a.toNat)[b.toNat] := List.getElem?_eq_getElem hlb
      generalize (ls.eraseIdx a.toNat)[b.toNat] = y at hB
      refine ⟨l, _, b, b.toNat, .int y, rfl, rfl, el5, by omega, by omega, seq_at b0' (by omega), ints_at hB, ?_⟩
      rw [map_erase]
      have B2 := B.step hA hB
      obtain ⟨x0, x1, _⟩ := B.fx x (List.mem_of_getElem? hA)
      obtain ⟨y0, y1, _⟩ := B.fx y (erase_mem B.nd hA (List.mem_of_getElem? hB)).1
      have lns := B.len
      have ep6 : (upd H5 l (.lst (((ls.eraseIdx a.toNat).eraseIdx b.toNat).map V.int))) p = some (.lst (ns.map V.int)) := by rw [upd_ne npl]; exact ep5
      refine ⟨_, rfl, _, rfl, _, rfl, p, _, _, x.toNat, rfl, rfl, ep6, ixN_at x0 (by rw [List.length_map]; omega), ?_⟩
      refine ⟨_, rfl, _, rfl, _, rfl, p, _, _, y.toNat, rfl, rfl, upd_same, ixN_at y0 (by rw [List.length_set, List.length_map]; omega), ?_⟩
      refine ⟨_, _, _, _, _, rfl, B2, ?_, ?_, ?_, ?_, ?_, ?_⟩
      · rw [List.length_eraseIdx, if_pos hlb, le]
        omega
      · rw [List.length_eraseIdx, if_pos hlb, le]
        omega
      · exact (((b4.trans b5).put2 hl0).put2 hp).put2 hp
      · exact (((h5.put nhl nql).put nhp nqp).put nhp nqp)
      · rw [upd_same, List.map_set, List.map_set]
      · rw [upd_ne npl.symm, upd_ne npl.symm, upd_same]
    · rintro σ H1 ⟨ns, ls, v4, v5, v6, rfl, B, hc, lsm, b1, h1, ep, el⟩
      have lns := B.len
      refine ⟨_, rfl, k ns p H1 (by omega) ⟨by omega, by omega, fun n hn => ?_, B.inv⟩ b1 hp ep h1⟩
      have := B.rng n hn
      omega
end
end J

set_option Elab.async false
set_option linter.all false
set_option maxRecDepth 100000
set_option maxHeartbeats 2000000
/-! enumerate over a tuple -/
namespace PySem
open Sem (wp)
open AutoSeq1 (wpAny_loadPart')
abbrev enumO (h : Heap) : Obj := { cls := .type "enumerate", data := .fields #[.none, .bool false, .ref h.objs.size, rawInt 0, .none, .none] }
theorem jMeetsEnum {v : Value} {o : Obj} {H0 : Heap → Prop} (B : Begins v o H0) :
    Meets (Builtin.«enumerate.__new__» ⟨[.type "enumerate", v], []⟩) (fun _ R s => H0 s.heap ∧ R (.ok (.ret (.ref (s.heap.push o).objs.size))) { s with heap := (s.heap.push o).push (enumO s.heap) }) := .of_wp fun prog w A R s h => by
  obtain ⟨hp, g, d, tk, os⟩ := s
  obtain ⟨h1, h⟩ := h
  have hsub := sub_enumerate
  have q1 : ∀ {A' : Around} {E : Value → Shared → Prop} {Q : Value → Shared → Prop}, Q (.ref hp.objs.size) ⟨hp.push o, g, d, tk, os⟩ → wpAny (model prog w) A' (pyIter v) Q E ⟨hp, g, d, tk, os⟩ := fun q => B.iter prog w _ _ ⟨hp, g, d, tk, os⟩ _ h1 q
  wp_walk
  refine wpAny_stack_any fun st => wpAny_pure ?_
  split
  · rename_i c _ _ _ _ _
    cases (c == Value.type "enumerate")
    · wp_walk using q1
      exact ⟨_, rfl, h⟩
    · wp_walk using q1
      exact ⟨_, rfl, h⟩
  · wp_walk using q1
    exact ⟨_, rfl, h⟩
theorem jEnumTup {prog : Program} {w : World} {A : Around} {E : Value → Shared → Prop} {s : Shared} {t : Addr} {items : Array Value} {Q : Value → Shared → Prop} (hT : s.heap.IsTuple t items)
    (h : ∀ h', IsEnum h' (s.heap.objs.size + 1) s.heap.objs.size 0 .none → h'.IsTupleIter s.heap.objs.size t 0 → (∀ b o, s.heap.get? b = some o → h'.get? b = some o) → Q (.ref (s.heap.objs.size + 1)) { s with heap := h' }) :
    wpAny (model prog w) A (call (.type "enumerate") [.ref t]) Q E s := by
  refine callType_new F.called_enumerate (by decide) (F.typeCall_enumerate_1 _) (F.newCall_enumerate_1 _) (fun obj => F.args_object_init_2 obj _) F.entry_enumerate_new (jMeetsEnum (begins_tuple t items)) ⟨hT, ?_⟩
  generalize eo : ({ cls := .type "tuple_iterator", data := .fields #[.ref t, .int 0 0] } : Obj) = o
  have hz : (s.heap.push o).objs.size = s.heap.objs.size + 1 := Heap.size_push ..
  show _ ∧ _
  rw [hz]
  have he : IsEnum ((s.heap.push o).push (enumO s.heap)) (s.heap.objs.size + 1) s.heap.objs.size 0 .none := by
    have q := Heap.get?_push_size (s.heap.push o) (o := enumO s.heap) rfl
    rw [hz] at q
    exact q
  refine ⟨⟨_, he, rfl⟩, h _ he ⟨o, Heap.get?_push_of_some _ (Heap.get?_push_size _ (by subst eo; rfl)), by subst eo; rfl, by subst eo; rfl⟩ fun b ob x => Heap.get?_push_of_some _ (Heap.get?_push_of_some _ x)⟩
end PySem
namespace J
open PySem PySem.Spec PyProof.Rows L2
/-- the tuple at a, its items in new pairs with their places -/
def Itet (K : PySem.W.Frag) (a : Addr) : It :=
  ⟨fun i H => ∃ (xs : List V) (x : V), SqT K H a xs ∧ xs[i]? = some x, fun i H v H' => ∃ T x, v = .ref T ∧ H T = none ∧ H' = upd H T (.tup [.int (i : Nat), x]) ∧ ∀ xs, SqT K H a xs → xs[i]? = some x, fun i H => ∃ xs : List V, SqT K H a xs ∧ xs.length = i⟩
theorem tup_apart {h : Heap} {a e it : Addr} {items : Array Value} {old : Value} {i : Nat} {c : Int} (ht : h.IsTuple a items) (he : IsEnum h e it c old) (hi : h.IsTupleIter it a i) : a ≠ it ∧ a ≠ e := by
  obtain ⟨o, ho, hc, _⟩ := ht
  obtain ⟨o2, ho2, hc2, _⟩ := hi
  refine ⟨fun q => ?_, fun q => ?_⟩
  · rw [q, ho2] at ho
    have := Option.some.inj ho
    subst this
    rw [hc2] at hc
    exact absurd hc (by decide)
  · have he' : h.get? e = _ := he
    rw [q, he'] at ho
    have := Option.some.inj ho
    subst this
    have hc2 : Value.type "enumerate" = Value.type "tuple" := hc
    injection hc2 with z
    exact absurd z (by decide)
theorem turn_enumT {P : Program} {w : World} {K : PySem.W.Frag} {elts : List Expr} {kk : Nat} {tpos : Pos} (a e it : Addr) :
    Turn P w K (.Tuple elts kk tpos) (Itet K a) [e, it] e (fun i h => (∃ old, IsEnum h e it ((i : Nat) : Int) old) ∧ h.IsTupleIter it a i ∧ e ≠ it) where
  mem := by simp
  obj := by
    rintro i h ⟨⟨old, he⟩, ⟨o, ho, hc, hd⟩, _⟩ b hb
    have e' : b = e ∨ b = it := by simpa using hb
    rcases e' with rfl | rfl
    · exact ⟨_, he, fun v q => nomatch q⟩
    · exact ⟨o, ho, fun v q => by rw [hd] at q; cases q⟩
  keep := by
    rintro i h h' ⟨⟨old, he⟩, ⟨o, ho, hr⟩, hne⟩ k
    exact ⟨⟨old, k e (by simp) _ he⟩, ⟨o, k it (by simp) _ ho, hr⟩, hne⟩
  item := by
    intro X hP hw hK hc i pins s σ H E I hf st hg
    subst hP hw hK
    obtain ⟨⟨old, he⟩, hit, hne⟩ := st
    obtain ⟨xs, x, hq, hx⟩ := hg
    obtain ⟨its, rv, p, hz⟩ := I.tuple hq
    obtain ⟨u, hu, ru⟩ := rv.get hx
    have ht : s.heap.IsTuple a its.toArray := p
    obtain ⟨n1, n2⟩ := tup_apart ht he hit
    have hel : e < s.heap.objs.size := Heap.lt_size he
    have hil : it < s.heap.objs.size := by
      obtain ⟨_, q, _⟩ := hit
      exact Heap.lt_size q
    have hlt : i < its.toArray.size := by
      have q := (List.getElem?_eq_some_iff.mp hu).1
      simpa using q
    have D := Draws.tuple (prog := X.prog) (w := X.w) (A := X.A.in1) (I.ok.hd hc) it a n1 its.toArray
    have nin : e ∉ [it, a] := by
      simp only [List.mem_cons, List.not_mem_nil, or_false, not_or]
      exact ⟨hne, fun q => n2 q.symm⟩
    refine wpAny_pyNext_enum_itemD D he ⟨hit, ht⟩ hlt hne nin ?_
    intro u2 h' tk hP ho hst hT hsz hk
    obtain rfl : u = u2 := by
      have q : its.toArray[i]? = some u2 := hP
      have q2 : its.toArray[i]? = some u := by simpa using hu
      rw [q2] at q
      exact Option.some.inj q
    refine ⟨_, rfl, wpAny_letOwnedTupleGo_enum (s := { s with heap := h', toks := tk + 1 }) ho ?_⟩
    intro h2 he2 sb
    have hT2 : h2.get? s.heap.objs.size = some { cls := .type "tuple", data := .seq #[.int i tk, u] } := (sb.2 _ (Nat.ne_of_gt hel)).trans hT
    have new : ObjOk X.prog X.w (upd H s.heap.objs.size (.tup [.int (i : Nat), x])) h2 s.heap.objs.size (.tup [.int (i : Nat), x]) :=
      ⟨by show 2 ≤ sizeLine; decide, [.int i tk, u], .cons ⟨_, rfl⟩ (.cons ru .nil), ⟨_, hT2, rfl, _, rfl⟩⟩
    have kept : ∀ (b : Addr) (ob : Obj), b ∉ [e, it] → s.heap.get? b = some ob → h2.get? b = some ob := fun b ob hb q => by
      have b1 : b ≠ e := fun z => hb (by simp [z])
      have b2 : b ≠ it := fun z => hb (by simp [z])
      exact (sb.2 b b1).trans (hk b ob b1 b2 q)
    have I1 : Inv X pins σ (upd H s.heap.objs.size (.tup [.int (i : Nat), x])) { s with heap := h2, toks := tk + 1 } := I.turnedNew (ch := [e, it]) kept hf (Nat.le_refl _) new
    refine ⟨.ref s.heap.objs.size, _, I1, rfl, ⟨_, x, rfl, I.hok.fresh (Nat.le_refl _), rfl, fun ys hy => by rw [I.tuple_inj hy hq]; exact hx⟩, ⟨⟨u, ?_⟩, hst.1.at fun o q => (sb.2 it (Ne.symm hne)).trans q, hne⟩, fun b hb => ?_⟩
    · have e1 : ((i + 1 : Nat) : Int) = (i : Int) + 1 := by omega
      rw [e1]
      exact he2
    · have hb' : b < s.heap.objs.size := by
        have e' : b = e ∨ b = it := by simpa using hb
        rcases e' with z | z
        · rw [z]
          exact hel
        · rw [z]
          exact hil
      rw [upd_ne (Nat.ne_of_lt hb')]
      exact (hf b hb).1
  done := by
    intro X hP hw hK hc i pins s σ H E I hf st hg
    subst hP hw hK
    obtain ⟨⟨old, he⟩, hit, hne⟩ := st
    obtain ⟨xs, hq, hx⟩ := hg
    obtain ⟨its, rv, p, hz⟩ := I.tuple hq
    have ht : s.heap.IsTuple a its.toArray := p
    obtain ⟨n1, n2⟩ := tup_apart ht he hit
    obtain ⟨f0, f1, f2, f3, f4, f5⟩ := hf it (by simp)
    have D := Draws.tuple (prog := X.prog) (w := X.w) (A := X.A.in1) (I.ok.hd hc) it a n1 its.toArray
    have hn : its.toArray.size = i := by
      have hl := rv.length
      simp
      omega
    refine wpAny_pyNext_enum_endD D he ⟨by rw [hn]; exact hit, ht⟩ ?_
    intro h' eb
    exact ⟨rfl, I.turned (t' := s.toks) (fun b o hb q => eb b o hb q) f0 f1 f3 f4 f5⟩
  self := fun A i s Q E ⟨⟨_, he⟩, _⟩ h => wpAny_pyIter_enum he h
def iEnumT (K : PySem.W.Frag) (ta : TA) : TI := fun σ H R => ta σ H fun vs H1 => ∃ a xs, vs = [.ref a] ∧ SqT K H1 a xs ∧ R (Itet K a) H1
theorem pi_enumT {X : Cx} {e : Expr} {ta : TA} {p pos tpos : Pos} {elts : List Expr} {kk : Nat} (hg : Gl X "enumerate") (hm : X.mg "enumerate" = none) (ha : PA X [e] ta)
    (hs : starEach [e] X.env = [(false, eval e X.env)] := by rfl) : PI X (.Tuple elts kk tpos) (.Call (.Name "enumerate" p) [e] [] pos) (iEnumT X.K ta) := by
  constructor
  intro pins s σ H R I h
  refine Call_ (ld_blt I hg hm boot_enumerate (PyProof.Rows.callWith_type1 (thn (ha.run pos pins s σ H _ I h) ?_) hs rfl))
  rintro us s1 ⟨vs, H1, I1, r1, a, xs, ex, hq, q⟩
  subst ex
  cases r1 with
  | cons r rr =>
    cases rr
    cases r
    obtain ⟨its, rv, p', hz⟩ := I1.tuple hq
    refine jEnumTup (items := its.toArray) p' ?_
    intro h' he hit hk
    refine wpAny_pyIter_enum he ?_
    have I2 : Inv X pins σ H1 { s1 with heap := h' } := I1.kept (t' := s1.toks) hk
    refine ⟨s1.heap.objs.size + 1, [s1.heap.objs.size + 1, s1.heap.objs.size], _, _, H1, rfl, I2, turn_enumT a (s1.heap.objs.size + 1) s1.heap.objs.size, ⟨⟨.none, he⟩, hit, Nat.succ_ne_self _⟩, ?_, q⟩
    intro b hb
    have e' : b = s1.heap.objs.size + 1 ∨ b = s1.heap.objs.size := by simpa using hb
    have hle : s1.heap.objs.size ≤ b := by
      rcases e' with z | z
      · rw [z]
        exact Nat.le_succ _
      · rw [z]
        exact Nat.le_refl _
    exact I1.fpOk hle (I1.hok.fresh hle)
theorem for_enumT {K : PySem.W.Frag} {a : Addr} {xs : List V} {g : TG} {tb : TS} {D : Ends} {σ : L2.St} {H : Hp} (Pv : Nat → L2.St → Hp → Prop) (h0 : Pv 0 σ H) (hl : ∀ i σ H, i ≤ xs.length → Pv i σ H → SqT K H a xs)
    (hs : ∀ i x σ H T, xs[i]? = some x → Pv i σ H → H T = none → g (.ref T) σ (upd H T (.tup [.int (i : Nat), x])) fun σ2 H2 => tb { D with nx := Pv (i + 1), ct := Pv (i + 1), bk := D.nx } σ2 H2) (hd : ∀ σ H, Pv xs.length σ H → D.nx σ H) :
    ∃ W : Nat → Nat → L2.St → Hp → Prop, (∃ m, W 0 m σ H) ∧ ∀ i m σ H, W i m σ H →
      ((Itet K a).stop i H ∧ D.nx σ H) ∨ ((Itet K a).go i H ∧ ∃ N : L2.St → Hp → Prop, (∀ σ' H', N σ' H' → ∃ m', m' < m ∧ W (i + 1) m' σ' H') ∧ ∀ x H', (Itet K a).yld i H x H' → g x σ H' fun σ2 H2 => tb { D with nx := N, ct := N, bk := D.nx } σ2 H2) := by
  refine ⟨fun i m s h => m + i = xs.length ∧ Pv i s h, ⟨xs.length, rfl, h0⟩, ?_⟩
  rintro i m σ H ⟨em, p⟩
  have hi : i ≤ xs.length := by omega
  have q := hl i σ H hi p
  rcases Nat.lt_or_ge i xs.length with hlt | hge
  · refine .inr ⟨⟨xs, xs[i], q, by simp [hlt]⟩, Pv (i + 1), fun σ' H' p' => ⟨m - 1, by omega, by omega, p'⟩, ?_⟩
    rintro x H' ⟨T, y, rfl, hT, rfl, hy⟩
    exact hs i y σ H T (hy xs q) p hT
  · have e : i = xs.length := by omega
    subst e
    exact .inl ⟨⟨xs, q, rfl⟩, hd σ H p⟩
end J

set_option Elab.async false
set_option linter.all false
set_option maxRecDepth 100000
set_option maxHeartbeats 4000000
namespace J
open PySem PySem.Spec PyProof.Rows L2
/-! ### an own error with two fields -/
def spXI2 (C : Addr) (f g : Str) : Sp := fun vs H Q _ => ∃ (a : Addr) (v u : V), vs = [.ref a, v, u] ∧ H a = some (exo a C none) ∧ ∀ dx, H dx = none → dx ≠ a → Q .non (upd (upd (upd H dx (exd dx [(f, v)])) a (exo a C (some dx))) dx (exd dx [(g, u), (f, v)]))
structure Ex2 (P : Program) (w : World) (K : PySem.W.Frag) (mg : Str → Option Value) (base : Heap) (x f g : Str) (C fI : Addr) (fd : FuncData) (ps : List Str) : Prop where
  o : OexC K C
  i : PySem.W.findIn K (.ref C) "__init__" = some (some (.ref fI))
  t : PySem.W.typeIn K (.ref fI) = some (.type "function")
  F : FnOk P w K mg base CX0 1 fI fd ps (spXI2 C f g)
  b : Binds K fd ps []
  m : mg x = some (.ref C)
  xf : XfC K C
  no1 : PySem.W.findIn K (.ref C) f = some none
  no2 : PySem.W.findIn K (.ref C) g = some none
  te : PySem.W.exmOne K (.ref C) (.ref C) = some true
def Tells2 (H : Hp) (C : Addr) (f g : Str) (v u : V) (E : XK) : Prop := ∀ d H', H d = none → Same H H' → H' d = some (.xd [(g, u), (f, v)]) → E (.ref C) (some d) H'
theorem Tells2.mono {H H1 : Hp} {C : Addr} {f g : Str} {v u : V} {E : XK} (h : Tells2 H C f g v u E) (S : Same H H1) : Tells2 H1 C f g v u E := fun d H' n S1 e => h d H' (S.free n) (S.trans S1) e
theorem mkO_of2 {C : Addr} {f g : Str} {v u : V} {H : Hp} {Q : XK} (h : Tells2 H C f g v u Q) : [v, u].length ≤ 1000 ∧ ∀ a, H a = none → spXI2 C f g (.ref a :: ([v, u] ++ [])) (upd H a (exo a C none))
    (fun z H2 => z = .non ∧ ∃ (d : Addr) (fs : List (Str × V)), H2 a = some (exo a C (some d)) ∧ H2 d = some (exd d fs) ∧ H d = none ∧ Q (.ref C) (some d) (upd (del H2 a) d (.xd fs))) (fun _ _ _ => False) := by
  refine ⟨(by show 2 ≤ 1000; decide), fun a ha => ⟨a, v, u, rfl, upd_same, fun dx hdx ne => ⟨rfl, dx, [(g, u), (f, v)], ?_, upd_same, ?_, ?_⟩⟩⟩
  · rw [upd_ne ne.symm, upd_same]
  · rw [upd_ne ne] at hdx
    exact hdx
  · rw [upd_ne ne] at hdx
    refine h _ _ hdx (fun b o e => ?_) upd_same
    have n1 := ne_of_none e hdx
    have n2 := ne_of_none e ha
    rw [upd_ne n1, del_ne n2, upd_ne n1, upd_ne n2, upd_ne n1, upd_ne n2]
    exact e
abbrev s_BadCompany_init : Stmt := inClass (top 5) 0
theorem sc_BadCompany_init : FnScope ["self", "index", "what"] ["self", "index", "what"] (defScope s_BadCompany_init) := ⟨rfl, rfl, rfl, by decide +kernel, rfl, by decide +kernel, by decide +kernel⟩
section
variable {P : Program} {w : World} {K : PySem.W.Frag} {mg : Str → Option Value} {base : Heap}
theorem ok_BadCompany_init {f C : Addr} {fd : FuncData} (F : Fun K "__init__" "BadCompany.__init__" s_BadCompany_init f fd) (o : OexC K C) (no1 : PySem.W.findIn K (.ref C) "index" = some none) (no2 : PySem.W.findIn K (.ref C) "what" = some none) :
    FnOk P w K mg base CX0 1 f fd ["self", "index", "what"] (spXI2 C "index" "what") := by
  refine F.ok sc_BadCompany_init (fun vs H Q E h => ?_) (fun cdv A outer s H vs Q E hr h => ?_)
  · obtain ⟨x, s, u, rfl, _⟩ := h
    rfl
  · obtain ⟨a, v, u, rfl, ha, k⟩ := h
    refine ⟨_, pss_cons (ps_ost (pv 0) (pv 1)) (pss_one (ps_ost (pv 0) (pv 2))), ?_⟩
    refine ⟨_, rfl, _, rfl, a, C, rfl, o, no1, .inl ⟨ha, fun dx hdx ne => ?_⟩⟩
    refine ⟨_, rfl, _, rfl, a, C, rfl, o, no2, .inr ⟨dx, [("index", v)], upd_same, by rw [upd_ne ne, upd_same], (by show 1 ≤ 900; decide), ?_⟩⟩
    exact k dx hdx ne
end
/-! ### a row is judged -/
def rowW (m n : Nat) (s : Sh) : Option Str :=
  if (s.isL || s.isT) = true then
    if (items s).length = n then
      if ∀ x ∈ items s, wholeB x 0 ((m : Nat) - 1) = true then none else some "tie"
    else some "length"
  else some "row"
theorem rowW_row {m n : Nat} {s : Sh} (h : (s.isL || s.isT) = false) : rowW m n s = some ("row" : Str) := by
  unfold rowW
  rw [if_neg (by simp [h])]
theorem rowW_length {m n : Nat} {s : Sh} (h : (s.isL || s.isT) = true) (h2 : (items s).length ≠ n) : rowW m n s = some ("length" : Str) := by
  unfold rowW
  rw [if_pos h, if_neg h2]
theorem rowW_tie {m n : Nat} {s : Sh} {x : V} (h : (s.isL || s.isT) = true) (h2 : (items s).length = n) (hx : x ∈ items s) (e : wholeB x 0 ((m : Nat) - 1) = false) : rowW m n s = some ("tie" : Str) := by
  unfold rowW
  rw [if_pos h, if_pos h2, if_neg]
  intro q
  rw [q x hx] at e
  cases e
theorem rowW_none {m n : Nat} {s : Sh} (h : (s.isL || s.isT) = true) (h2 : (items s).length = n) (ha : ∀ x ∈ items s, wholeB x 0 ((m : Nat) - 1) = true) : rowW m n s = none := by
  unfold rowW
  rw [if_pos h, if_pos h2, if_pos ha]
abbrev s_check_row : Stmt := top 19
theorem sc_check_row : FnScope ["ties", "index", "row", "length", "tie"] ["ties", "index", "row", "length"] (defScope s_check_row) := ⟨rfl, rfl, rfl, by decide +kernel, rfl, by decide +kernel, by decide +kernel⟩
def spRow (C CB : Addr) : Sp := fun vs H Q E => ∃ (t : Addr) (ns : List Int) (j n : Nat) (x : V) (s : Sh), vs = [.ref t, .int (j : Nat), x, .int (n : Nat)] ∧ TiesAt C H t ns ∧ Is H x s ∧ Known H (items s) ∧
  (∀ u, rowW ns.length n s = some u → Tells2 H CB "index" "what" (.int (j : Nat)) (.str u) E) ∧ (rowW ns.length n s = none → ∀ H', Same H H' → Q .non H')
section
variable {P : Program} {w : World} {K : PySem.W.Frag} {mg : Str → Option Value} {base : Heap}
theorem ok_check_row {f C CB fS fH fI : Addr} {fd fdS fdH fdI : FuncData} (F : Fun K "_check_row" "_check_row" s_check_row f fd) (T : TiC K C) (nl : mg "len" = none)
    (GS : Cal P w K mg base CX0 1 "is_sequence" fS fdS ["thing"] spSeq) (GH : Mt P w K mg base CX0 2 C "has" fH fdH ["self", "thing"] (spHas C)) (GB : Ex2 P w K mg base "BadCompany" "index" "what" CB fI fdI ["self", "index", "what"]) :
    FnOk P w K mg base (L2.CX P w) 3 f fd ["ties", "index", "row", "length"] (spRow C CB) := by
  refine F.okX sc_check_row (fun vs H Q E h => ?_) (fun cdv A outer s H vs Q E hr h => ?_)
  · obtain ⟨t, ns, j, n, x, s, rfl, _⟩ := h
    rfl
  · obtain ⟨t, ns, j, n, x, sh, rfl, hT, hx, kn, k1, k2⟩ := h
    have hr2 : Room 2 _ := hr
    cases sh with
    | sc u =>
      refine ⟨_, (pss_cons 
  (ps_if (pt_not (pt_val (pcal GS hr pass0 (pa_cons (pv 2) pa_nil)))) (pss_one (ps_raise rfl (takes_of rfl rfl rfl rfl) (pmk_oex GB.o GB.i GB.t GB.F hr2 GB.b .nil pass0 rfl GB.m (pa_cons (pv 1) (pa_cons pe_str pa_nil))))) pss_nil) (pss_cons 
  (ps_if (pt_cmpR op_ne (pe_callB call_len_seq (by rfl) nl PySem.boot_len (pa_cons (pv 2) pa_nil)) (pv 3) (nomark _)) (pss_one (ps_raise rfl (takes_of rfl rfl rfl rfl) (pmk_oex GB.o GB.i GB.t GB.F hr2 GB.b .nil pass0 rfl GB.m (pa_cons (pv 1) (pa_cons pe_str pa_nil))))) pss_nil) (pss_one 
  (ps_for (passes_of rfl) rfl (pi_list (pv 2)) (pg_name (i := 4) sc_check_row.nd rfl (Or.inl rfl)) (pss_one 
    (ps_if (pt_not (pt_val (pe_meth (pv 0) T.cl GH.M GH.F hr2 GH.b .nil pass0 (pa_cons (pv 4) pa_nil)))) (pss_one (ps_raise rfl (takes_of rfl rfl rfl rfl) (pmk_oex GB.o GB.i GB.t GB.F hr2 GB.b .nil pass0 rfl GB.m (pa_cons (pv 1) (pa_cons pe_str pa_nil))))) pss_nil)))))), ?_⟩
      exact ⟨_, rfl, x, (.sc u), rfl, hx, fun H1 S1 => ⟨_, rfl, iteT ⟨_, rfl, mkO_of2 ((k1 "row" (rowW_row rfl)).mono S1)⟩⟩⟩
    | dk =>
      refine ⟨_, (pss_cons 
  (ps_if (pt_not (pt_val (pcal GS hr pass0 (pa_cons (pv 2) pa_nil)))) (pss_one (ps_raise rfl (takes_of rfl rfl rfl rfl) (pmk_oex GB.o GB.i GB.t GB.F hr2 GB.b .nil pass0 rfl GB.m (pa_cons (pv 1) (pa_cons pe_str pa_nil))))) pss_nil) (pss_cons 
  (ps_if (pt_cmpR op_ne (pe_callB call_len_seq (by rfl) nl PySem.boot_len (pa_cons (pv 2) pa_nil)) (pv 3) (nomark _)) (pss_one (ps_raise rfl (takes_of rfl rfl rfl rfl) (pmk_oex GB.o GB.i GB.t GB.F hr2 GB.b .nil pass0 rfl GB.m (pa_cons (pv 1) (pa_cons pe_str pa_nil))))) pss_nil) (pss_one 
  (ps_for (passes_of rfl) rfl (pi_list (pv 2)) (pg_name (i := 4) sc_check_row.nd rfl (Or.inl rfl)) (pss_one 
    (ps_if (pt_not (pt_val (pe_meth (pv 0) T.cl GH.M GH.F hr2 GH.b .nil pass0 (pa_cons (pv 4) pa_nil)))) (pss_one (ps_raise rfl (takes_of rfl rfl rfl rfl) (pmk_oex GB.o GB.i GB.t GB.F hr2 GB.b .nil pass0 rfl GB.m (pa_cons (pv 1) (pa_cons pe_str pa_nil))))) pss_nil)))))), ?_⟩
      exact ⟨_, rfl, x, .dk, rfl, hx, fun H1 S1 => ⟨_, rfl, iteT ⟨_, rfl, mkO_of2 ((k1 "row" (rowW_row rfl)).mono S1)⟩⟩⟩
    | lst xs =>
      obtain ⟨p, rfl, hp⟩ := hx
      refine ⟨_, (pss_cons 
  (ps_if (pt_not (pt_val (pcal GS hr pass0 (pa_cons (pv 2) pa_nil)))) (pss_one (ps_raise rfl (takes_of rfl rfl rfl rfl) (pmk_oex GB.o GB.i GB.t GB.F hr2 GB.b .nil pass0 rfl GB.m (pa_cons (pv 1) (pa_cons pe_str pa_nil))))) pss_nil) (pss_cons 
  (ps_if (pt_cmpR op_ne (pe_callB call_len_seq (by rfl) nl PySem.boot_len (pa_cons (pv 2) pa_nil)) (pv 3) (nomark _)) (pss_one (ps_raise rfl (takes_of rfl rfl rfl rfl) (pmk_oex GB.o GB.i GB.t GB.F hr2 GB.b .nil pass0 rfl GB.m (pa_cons (pv 1) (pa_cons pe_str pa_nil))))) pss_nil) (pss_one 
  (ps_for (passes_of rfl) rfl (pi_list (pv 2)) (pg_name (i := 4) sc_check_row.nd rfl (Or.inl rfl)) (pss_one 
    (ps_if (pt_not (pt_val (pe_meth (pv 0) T.cl GH.M GH.F hr2 GH.b .nil pass0 (pa_cons (pv 4) pa_nil)))) (pss_one (ps_raise rfl (takes_of rfl rfl rfl rfl) (pmk_oex GB.o GB.i GB.t GB.F hr2 GB.b .nil pass0 rfl GB.m (pa_cons (pv 1) (pa_cons pe_str pa_nil))))) pss_nil)))))), ?_⟩
      refine ⟨_, rfl, _, .lst xs, rfl, ⟨p, rfl, hp⟩, fun H1 S1 => ⟨_, rfl, iteF ?_⟩⟩
      have h1 := S1 _ _ hp
      have hT1 := hT.keep S1
      have kn1 : Known H1 xs := kn.keep S1
      obtain ⟨dx, tt, hx1, ht1⟩ := id hT1
      refine ⟨_, rfl, p, xs, rfl, .inl (SqL.of h1), _, rfl, rfl, _, rfl, ?_⟩
      by_cases c : xs.length = n
      case neg => exact if_tr (by simp; omega) ⟨_, rfl, mkO_of2 ((k1 "length" (rowW_length (s := .lst xs) rfl c)).mono S1)⟩
      refine if_fa (by simp [c]) ⟨_, rfl, p, rfl, ⟨_, SqL.of h1⟩, for_list (K := K) (a := p) (xs := xs) (fun i σ H' => ∃ v4 : Option V, σ = [some (.ref t), some (.int (j : Nat)), some (.ref p), some (.int (n : Nat)), v4] ∧ H' = H1 ∧ ∀ a y, a < i → xs[a]? = some y → wholeB y 0 ((ns.length : Nat) - 1) = true)
        ⟨none, rfl, rfl, fun a y ha => absurd ha (Nat.not_lt_zero a)⟩ (fun i σ H' _ ⟨_, _, e, _⟩ => by rw [e]; exact SqL.of h1) ?_ ?_⟩
      · rintro i y σ H' hy ⟨v4, rfl, rfl, hb⟩
        have hym := List.mem_of_getElem? hy
        obtain ⟨sy, isy⟩ := kn1 y hym
        refine ⟨_, rfl, t, dx, _, rfl, hx1, tf_no _ _ (by decide +kernel) (by decide +kernel), _, rfl, t, ns, y, sy, rfl, hT1, isy, _, rfl, ?_⟩
        cases e : tieB ns y with
        | true =>
          refine iteF ⟨_, rfl, rfl, fun a z ha hz => ?_⟩
          rcases Nat.lt_or_ge a i with hai | hai
          · exact hb a z hai hz
          · obtain rfl : a = i := by omega
            rw [hy] at hz
            rw [← Option.some.inj hz]
            exact e
        | false => exact iteT ⟨_, rfl, mkO_of2 ((k1 "tie" (rowW_tie (s := .lst xs) rfl c hym e)).mono S1)⟩
      · rintro σ H' ⟨v4, rfl, rfl, hb⟩
        refine k2 (rowW_none (s := .lst xs) rfl c fun y hy => ?_) _ S1
        obtain ⟨a, ha⟩ := List.getElem?_of_mem hy
        exact hb a y (List.getElem?_eq_some_iff.mp ha).1 ha
    | tup xs =>
      obtain ⟨p, rfl, hp⟩ := hx
      refine ⟨_, (pss_cons 
  (ps_if (pt_not (pt_val (pcal GS hr pass0 (pa_cons (pv 2) pa_nil)))) (pss_one (ps_raise rfl (takes_of rfl rfl rfl rfl) (pmk_oex GB.o GB.i GB.t GB.F hr2 GB.b .nil pass0 rfl GB.m (pa_cons (pv 1) (pa_cons pe_str pa_nil))))) pss_nil) (pss_cons 
  (ps_if (pt_cmpR op_ne (pe_callB call_len_seq (by rfl) nl PySem.boot_len (pa_cons (pv 2) pa_nil)) (pv 3) (nomark _)) (pss_one (ps_raise rfl (takes_of rfl rfl rfl rfl) (pmk_oex GB.o GB.i GB.t GB.F hr2 GB.b .nil pass0 rfl GB.m (pa_cons (pv 1) (pa_cons pe_str pa_nil))))) pss_nil) (pss_one 
  (ps_for (passes_of rfl) rfl (pi_tup (pv 2)) (pg_name (i := 4) sc_check_row.nd rfl (Or.inl rfl)) (pss_one 
    (ps_if (pt_not (pt_val (pe_meth (pv 0) T.cl GH.M GH.F hr2 GH.b .nil pass0 (pa_cons (pv 4) pa_nil)))) (pss_one (ps_raise rfl (takes_of rfl rfl rfl rfl) (pmk_oex GB.o GB.i GB.t GB.F hr2 GB.b .nil pass0 rfl GB.m (pa_cons (pv 1) (pa_cons pe_str pa_nil))))) pss_nil)))))), ?_⟩
      refine ⟨_, rfl, _, .tup xs, rfl, ⟨p, rfl, hp⟩, fun H1 S1 => ⟨_, rfl, iteF ?_⟩⟩
      have h1 := S1 _ _ hp
      have hT1 := hT.keep S1
      have kn1 : Known H1 xs := kn.keep S1
      obtain ⟨dx, tt, hx1, ht1⟩ := id hT1
      refine ⟨_, rfl, p, xs, rfl, .inr (SqT.of h1), _, rfl, rfl, _, rfl, ?_⟩
      by_cases c : xs.length = n
      case neg => exact if_tr (by simp; omega) ⟨_, rfl, mkO_of2 ((k1 "length" (rowW_length (s := .tup xs) rfl c)).mono S1)⟩
      refine if_fa (by simp [c]) ⟨_, rfl, p, rfl, ⟨_, SqT.of h1⟩, for_tup (K := K) (a := p) (xs := xs) (fun i σ H' => ∃ v4 : Option V, σ = [some (.ref t), some (.int (j : Nat)), some (.ref p), some (.int (n : Nat)), v4] ∧ H' = H1 ∧ ∀ a y, a < i → xs[a]? = some y → wholeB y 0 ((ns.length : Nat) - 1) = true)
        ⟨none, rfl, rfl, fun a y ha => absurd ha (Nat.not_lt_zero a)⟩ (fun i σ H' _ ⟨_, _, e, _⟩ => by rw [e]; exact SqT.of h1) ?_ ?_⟩
      · rintro i y σ H' hy ⟨v4, rfl, rfl, hb⟩
        have hym := List.mem_of_getElem? hy
        obtain ⟨sy, isy⟩ := kn1 y hym
        refine ⟨_, rfl, t, dx, _, rfl, hx1, tf_no _ _ (by decide +kernel) (by decide +kernel), _, rfl, t, ns, y, sy, rfl, hT1, isy, _, rfl, ?_⟩
        cases e : tieB ns y with
        | true =>
          refine iteF ⟨_, rfl, rfl, fun a z ha hz => ?_⟩
          rcases Nat.lt_or_ge a i with hai | hai
          · exact hb a z hai hz
          · obtain rfl : a = i := by omega
            rw [hy] at hz
            rw [← Option.some.inj hz]
            exact e
        | false => exact iteT ⟨_, rfl, mkO_of2 ((k1 "tie" (rowW_tie (s := .tup xs) rfl c hym e)).mono S1)⟩
      · rintro σ H' ⟨v4, rfl, rfl, hb⟩
        refine k2 (rowW_none (s := .tup xs) rfl c fun y hy => ?_) _ S1
        obtain ⟨a, ha⟩ := List.getElem?_of_mem hy
        exact hb a y (List.getElem?_eq_some_iff.mp ha).1 ha
end
end J

set_option Elab.async false
set_option linter.all false
set_option maxRecDepth 100000
set_option maxHeartbeats 4000000
namespace J
open PySem PySem.Spec PyProof.Rows L2
/-! ### a company is judged -/
/-- the first place at which a word is due -/
def scan (f : Nat → Option Str) : Nat → Option (Nat × Str)
  | 0 => none
  | n + 1 => match scan f n with
    | some r => some r
    | none => (f n).map fun w => (n, w)
theorem scan_none {f : Nat → Option Str} : ∀ {n : Nat}, (∀ j, j < n → f j = none) → scan f n = none
  | 0, _ => rfl
  | n + 1, h => by
    have ih := scan_none (n := n) fun j hj => h j (by omega)
    show (match scan f n with | some r => some r | none => (f n).map fun w => (n, w)) = none
    rw [ih, h n (by omega)]
    rfl
theorem scan_some {f : Nat → Option Str} {j : Nat} {w : Str} (h : ∀ i, i < j → f i = none) (e : f j = some w) : ∀ {n : Nat}, j < n → scan f n = some (j, w)
  | 0, hj => absurd hj (Nat.not_lt_zero j)
  | n + 1, hj => by
    show (match scan f n with | some r => some r | none => (f n).map fun w => (n, w)) = some (j, w)
    rcases Nat.lt_or_ge j n with hl | hl
    · rw [scan_some h e hl]
    · obtain rfl : j = n := by omega
      rw [scan_none h, e]
      rfl
/-- the word due at place j of the guests -/
def ordB (gs : List V) (j : Nat) : Bool := match gs[j - 1]?, gs[j]? with
  | some (.int a), some (.int b) => decide (0 < j) && decide (b ≤ a)
  | _, _ => false
def wordC (m : Nat) (gs : List V) (ss : List Sh) (j : Nat) : Option Str :=
  match gs[j]? with
  | none => none
  | some x =>
    if wholeB x 0 1000000000 = true then
      if ordB gs j = true then some "order"
      else match ss[j]? with
        | none => some "row"
        | some s => rowW m j s
    else some "label"
def dueC (m : Nat) (g r : Sh) (ss : List Sh) : Option (Int × Str) :=
  if ((g.isL || g.isT) && (r.isL || r.isT)) = true then
    if (items g).length ≤ 60 then
      match scan (wordC m (items g) ss) (items g).length with
      | some (j, w) => some ((j : Nat), w)
      | none => if (items g).length < (items r).length then some (((items g).length : Nat), "rows") else none
    else some (60, "many")
  else some (0, "sequence")
/-- the shapes of the rows -/
def ShAll (H : Hp) : List V → List Sh → Prop := Paired fun x s => Is H x s ∧ Known H (items s)
theorem ShAll.keep {H H' : Hp} (S : Same H H') : ∀ {xs : List V} {ss : List Sh}, ShAll H xs ss → ShAll H' xs ss
  | _, _, .nil => .nil
  | _, _, .cons h t => .cons ⟨h.1.keep S, h.2.keep S⟩ (ShAll.keep S t)
theorem ShAll.at_ {H : Hp} : ∀ {xs : List V} {ss : List Sh} {j : Nat} {x : V}, ShAll H xs ss → xs[j]? = some x → ∃ s, ss[j]? = some s ∧ Is H x s ∧ Known H (items s)
  | _, _, _, _, .nil, e => by simp at e
  | _, _, 0, _, .cons h _, e => by
    simp at e
    subst e
    exact ⟨_, rfl, h⟩
  | _, _, j + 1, x, .cons _ t, e => by
    obtain ⟨s, a, b⟩ := ShAll.at_ (j := j) (x := x) t (by simpa using e)
    exact ⟨s, by simpa using a, b⟩
theorem ShAll.len {H : Hp} {xs : List V} {ss : List Sh} (h : ShAll H xs ss) : xs.length = ss.length := Paired.length h
theorem due_seq {m : Nat} {g r : Sh} {ss : List Sh} (h : ((g.isL || g.isT) && (r.isL || r.isT)) = false) : dueC m g r ss = some ((0 : Int), ("sequence" : Str)) := by
  unfold dueC
  rw [if_neg (by simp [h])]
theorem due_many {m : Nat} {g r : Sh} {ss : List Sh} (h : ((g.isL || g.isT) && (r.isL || r.isT)) = true) (h2 : 60 < (items g).length) : dueC m g r ss = some ((60 : Int), ("many" : Str)) := by
  unfold dueC
  rw [if_pos h, if_neg (by omega)]
theorem due_word {m : Nat} {g r : Sh} {ss : List Sh} {j : Nat} {u : Str} (h : ((g.isL || g.isT) && (r.isL || r.isT)) = true) (h2 : (items g).length ≤ 60) (hb : ∀ i, i < j → wordC m (items g) ss i = none) (e : wordC m (items g) ss j = some u) (hj : j < (items g).length) :
    dueC m g r ss = some (((j : Nat) : Int), u) := by
  unfold dueC
  rw [if_pos h, if_pos h2, scan_some hb e hj]
theorem due_rows {m : Nat} {g r : Sh} {ss : List Sh} (h : ((g.isL || g.isT) && (r.isL || r.isT)) = true) (h2 : (items g).length ≤ 60) (hb : ∀ i, i < (items g).length → wordC m (items g) ss i = none) (h3 : (items g).length < (items r).length) :
    dueC m g r ss = some ((((items g).length : Nat) : Int), ("rows" : Str)) := by
  unfold dueC
  rw [if_pos h, if_pos h2, scan_none hb]
  show (if (items g).length < (items r).length then _ else _) = _
  rw [if_pos h3]
theorem due_ok {m : Nat} {g r : Sh} {ss : List Sh} (h : ((g.isL || g.isT) && (r.isL || r.isT)) = true) (h2 : (items g).length ≤ 60) (hb : ∀ i, i < (items g).length → wordC m (items g) ss i = none) (h3 : ¬ (items g).length < (items r).length) : dueC m g r ss = none := by
  unfold dueC
  rw [if_pos h, if_pos h2, scan_none hb]
  show (if (items g).length < (items r).length then _ else _) = _
  rw [if_neg h3]
theorem word_label {m j : Nat} {gs : List V} {ss : List Sh} {x : V} (h : gs[j]? = some x) (e : wholeB x 0 1000000000 = false) : wordC m gs ss j = some ("label" : Str) := by
  unfold wordC
  rw [h]
  show (if wholeB x 0 1000000000 = true then _ else _) = _
  rw [if_neg (by simp [e])]
theorem word_order {m j : Nat} {gs : List V} {ss : List Sh} {x : V} (h : gs[j]? = some x) (e : wholeB x 0 1000000000 = true) (o : ordB gs j = true) : wordC m gs ss j = some ("order" : Str) := by
  unfold wordC
  rw [h]
  show (if wholeB x 0 1000000000 = true then _ else _) = _
  rw [if_pos e, if_pos o]
theorem word_norow {m j : Nat} {gs : List V} {ss : List Sh} {x : V} (h : gs[j]? = some x) (e : wholeB x 0 1000000000 = true) (o : ordB gs j = false) (n : ss[j]? = none) : wordC m gs ss j = some ("row" : Str) := by
  unfold wordC
  rw [h]
  show (if wholeB x 0 1000000000 = true then _ else _) = _
  rw [if_pos e, if_neg (by simp [o]), n]
theorem word_row {m j : Nat} {gs : List V} {ss : List Sh} {x : V} {s : Sh} (h : gs[j]? = some x) (e : wholeB x 0 1000000000 = true) (o : ordB gs j = false) (n : ss[j]? = some s) : wordC m gs ss j = rowW m j s := by
  unfold wordC
  rw [h]
  show (if wholeB x 0 1000000000 = true then _ else _) = _
  rw [if_pos e, if_neg (by simp [o]), n]
theorem ord_ints {gs : List V} {j : Nat} {a b : Int} (h1 : gs[j]? = some (.int a)) (h2 : gs[j + 1]? = some (.int b)) : ordB gs (j + 1) = decide (b ≤ a) := by
  unfold ordB
  rw [show j + 1 - 1 = j by omega, h1, h2]
  show (decide (0 < j + 1) && decide (b ≤ a)) = _
  rw [decide_eq_true (by omega), Bool.true_and]
theorem ord_zero {gs : List V} : ordB gs 0 = false := by
  unfold ordB
  split
  · rfl
  · rfl
abbrev s_check_company : Stmt := top 18
theorem sc_check_company : FnScope ["ties", "guests", "rows", "index", "label"] ["ties", "guests", "rows"] (defScope s_check_company) := ⟨rfl, rfl, rfl, by decide +kernel, rfl, by decide +kernel, by decide +kernel⟩
def spCC (C CB : Addr) : Sp := fun vs H Q E => ∃ (t : Addr) (ns : List Int) (g r : V) (sg sr : Sh) (ss : List Sh), vs = [.ref t, g, r] ∧ TiesAt C H t ns ∧ Is H g sg ∧ Known H (items sg) ∧ Is H r sr ∧ ShAll H (items sr) ss ∧ (items sg).length ≤ 1000 ∧
  (∀ i u, dueC ns.length sg sr ss = some (i, u) → Tells2 H CB "index" "what" (.int i) (.str u) E) ∧ (dueC ns.length sg sr ss = none → ∀ H', Same H H' → Q .non H')
section
variable {P : Program} {w : World} {K : PySem.W.Frag} {mg : Str → Option Value} {base : Heap}
theorem ok_check_company {f C CB fS fL fR fI : Addr} {fd fdS fdL fdR fdI : FuncData} (F : Fun K "_check_company" "_check_company" s_check_company f fd) (nl : mg "len" = none) (ne : mg "enumerate" = none) (mG : ∃ t, mg "MOST_GUESTS" = some (.int 60 t))
    (GS : Cal P w K mg base CX0 1 "is_sequence" fS fdS ["thing"] spSeq) (GL : Cal P w K mg base CX0 2 "is_label" fL fdL ["thing"] spLabel) (GR : Cal P w K mg base (L2.CX P w) 3 "_check_row" fR fdR ["ties", "index", "row", "length"] (spRow C CB)) (GB : Ex2 P w K mg base "BadCompany" "index" "what" CB fI fdI ["self", "index", "what"]) :
    FnOk P w K mg base (L2.CX P w) 4 f fd ["ties", "guests", "rows"] (spCC C CB) := by
  obtain ⟨tG, mG⟩ := mG
  refine F.okX sc_check_company (fun vs H Q E h => ?_) (fun cdv A outer s H vs Q E hr h => ?_)
  · obtain ⟨t, ns, g, r, sg, sr, ss, rfl, _⟩ := h
    rfl
  · obtain ⟨t, ns, g, r, sg, sr, ss, rfl, hT, hg, kg, hrr, hs, lg, k1, k2⟩ := h
    have hr2 : Room 2 _ := hr.mono (by decide)
    cases sg with
    | sc u =>
      refine ⟨_, (pss_cons 
  (ps_if (PW.pt (pw_or (pt_not (pt_val (pcal GS hr pass0 (pa_cons (pv 1) pa_nil)))) (pw_or1 (pt_not (pt_val (pcal GS hr pass0 (pa_cons (pv 2) pa_nil))))))) (pss_one (ps_raise rfl (takes_of rfl rfl rfl rfl) (pmk_oex GB.o GB.i GB.t GB.F hr2 GB.b .nil pass0 rfl GB.m (pa_cons pe_int (pa_cons pe_str pa_nil))))) pss_nil) (pss_cons 
  (ps_if (pt_cmpR op_gt (pe_callB call_len_seq (by rfl) nl PySem.boot_len (pa_cons (pv 1) pa_nil)) (pe_glob (v := .int 60) rfl mG ⟨_, rfl⟩) (nomark _)) (pss_one (ps_raise rfl (takes_of rfl rfl rfl rfl) (pmk_oex GB.o GB.i GB.t GB.F hr2 GB.b .nil pass0 rfl GB.m (pa_cons (pe_glob (v := .int 60) rfl mG ⟨_, rfl⟩) (pa_cons pe_str pa_nil))))) pss_nil) (pss_cons 
  (ps_for (passes_of rfl) rfl (pi_enum (by rfl) ne (pa_cons (pv 1) pa_nil)) (pg_tup (by rfl) (pgs_cons (pg_name (i := 3) sc_check_company.nd rfl (Or.inl rfl)) (pgs_cons (pg_name (i := 4) sc_check_company.nd rfl (Or.inl rfl)) pgs_nil))) (pss_cons 
    (ps_if (pt_not (pt_val (pcal GL hr pass0 (pa_cons (pv 4) pa_nil)))) (pss_one (ps_raise rfl (takes_of rfl rfl rfl rfl) (pmk_oex GB.o GB.i GB.t GB.F hr2 GB.b .nil pass0 rfl GB.m (pa_cons (pv 3) (pa_cons pe_str pa_nil))))) pss_nil) (pss_cons 
    (ps_if (PW.pt (pw_and (pt_cmpR op_gt (pv 3) pe_int (nomark _)) (pw_and1 (pt_cmpR op_le (pv 4) (pe_ix ix_list (pv 1) (pe_op op_sub (pv 3) pe_int) (fun _ _ => rfl)) (nomark _))))) (pss_one (ps_raise rfl (takes_of rfl rfl rfl rfl) (pmk_oex GB.o GB.i GB.t GB.F hr2 GB.b .nil pass0 rfl GB.m (pa_cons (pv 3) (pa_cons pe_str pa_nil))))) pss_nil) (pss_cons 
    (ps_if (pt_cmpR op_ge (pv 3) (pe_callB call_len_seq (by rfl) nl PySem.boot_len (pa_cons (pv 2) pa_nil)) (nomark _)) (pss_one (ps_raise rfl (takes_of rfl rfl rfl rfl) (pmk_oex GB.o GB.i GB.t GB.F hr2 GB.b .nil pass0 rfl GB.m (pa_cons (pv 3) (pa_cons pe_str pa_nil))))) pss_nil) (pss_one 
    (ps_expr (pcal GR hr (passes_call (takes_of rfl rfl rfl rfl) (fun _ _ _ _ h => h)) (pa_cons (pv 0) (pa_cons (pv 3) (pa_cons (pe_ix ix_list (pv 2) (pv 3) (fun _ _ => rfl)) (pa_cons (pv 3) pa_nil))))))))))) (pss_one 
  (ps_if (pt_cmpR op_gt (pe_callB call_len_seq (by rfl) nl PySem.boot_len (pa_cons (pv 2) pa_nil)) (pe_callB call_len_seq (by rfl) nl PySem.boot_len (pa_cons (pv 1) pa_nil)) (nomark _)) (pss_one (ps_raise rfl (takes_of rfl rfl rfl rfl) (pmk_oex GB.o GB.i GB.t GB.F hr2 GB.b .nil pass0 rfl GB.m (pa_cons (pe_callB call_len_seq (by rfl) nl PySem.boot_len (pa_cons (pv 1) pa_nil)) (pa_cons pe_str pa_nil))))) pss_nil))))), ?_⟩
      exact ⟨_, rfl, g, (.sc u), rfl, hg, fun H1 S1 => ⟨_, rfl, iteT (iteT (mkO_of2 ((k1 0 "sequence" (due_seq rfl)).mono S1)))⟩⟩
    | dk =>
      refine ⟨_, (pss_cons 
  (ps_if (PW.pt (pw_or (pt_not (pt_val (pcal GS hr pass0 (pa_cons (pv 1) pa_nil)))) (pw_or1 (pt_not (pt_val (pcal GS hr pass0 (pa_cons (pv 2) pa_nil))))))) (pss_one (ps_raise rfl (takes_of rfl rfl rfl rfl) (pmk_oex GB.o GB.i GB.t GB.F hr2 GB.b .nil pass0 rfl GB.m (pa_cons pe_int (pa_cons pe_str pa_nil))))) pss_nil) (pss_cons 
  (ps_if (pt_cmpR op_gt (pe_callB call_len_seq (by rfl) nl PySem.boot_len (pa_cons (pv 1) pa_nil)) (pe_glob (v := .int 60) rfl mG ⟨_, rfl⟩) (nomark _)) (pss_one (ps_raise rfl (takes_of rfl rfl rfl rfl) (pmk_oex GB.o GB.i GB.t GB.F hr2 GB.b .nil pass0 rfl GB.m (pa_cons (pe_glob (v := .int 60) rfl mG ⟨_, rfl⟩) (pa_cons pe_str pa_nil))))) pss_nil) (pss_cons 
  (ps_for (passes_of rfl) rfl (pi_enum (by rfl) ne (pa_cons (pv 1) pa_nil)) (pg_tup (by rfl) (pgs_cons (pg_name (i := 3) sc_check_company.nd rfl (Or.inl rfl)) (pgs_cons (pg_name (i := 4) sc_check_company.nd rfl (Or.inl rfl)) pgs_nil))) (pss_cons 
    (ps_if (pt_not (pt_val (pcal GL hr pass0 (pa_cons (pv 4) pa_nil)))) (pss_one (ps_raise rfl (takes_of rfl rfl rfl rfl) (pmk_oex GB.o GB.i GB.t GB.F hr2 GB.b .nil pass0 rfl GB.m (pa_cons (pv 3) (pa_cons pe_str pa_nil))))) pss_nil) (pss_cons 
    (ps_if (PW.pt (pw_and (pt_cmpR op_gt (pv 3) pe_int (nomark _)) (pw_and1 (pt_cmpR op_le (pv 4) (pe_ix ix_list (pv 1) (pe_op op_sub (pv 3) pe_int) (fun _ _ => rfl)) (nomark _))))) (pss_one (ps_raise rfl (takes_of rfl rfl rfl rfl) (pmk_oex GB.o GB.i GB.t GB.F hr2 GB.b .nil pass0 rfl GB.m (pa_cons (pv 3) (pa_cons pe_str pa_nil))))) pss_nil) (pss_cons 
    (ps_if (pt_cmpR op_ge (pv 3) (pe_callB call_len_seq (by rfl) nl PySem.boot_len (pa_cons (pv 2) pa_nil)) (nomark _)) (pss_one (ps_raise rfl (takes_of rfl rfl rfl rfl) (pmk_oex GB.o GB.i GB.t GB.F hr2 GB.b .nil pass0 rfl GB.m (pa_cons (pv 3) (pa_cons pe_str pa_nil))))) pss_nil) (pss_one 
    (ps_expr (pcal GR hr (passes_call (takes_of rfl rfl rfl rfl) (fun _ _ _ _ h => h)) (pa_cons (pv 0) (pa_cons (pv 3) (pa_cons (pe_ix ix_list (pv 2) (pv 3) (fun _ _ => rfl)) (pa_cons (pv 3) pa_nil))))))))))) (pss_one 
  (ps_if (pt_cmpR op_gt (pe_callB call_len_seq (by rfl) nl PySem.boot_len (pa_cons (pv 2) pa_nil)) (pe_callB call_len_seq (by rfl) nl PySem.boot_len (pa_cons (pv 1) pa_nil)) (nomark _)) (pss_one (ps_raise rfl (takes_of rfl rfl rfl rfl) (pmk_oex GB.o GB.i GB.t GB.F hr2 GB.b .nil pass0 rfl GB.m (pa_cons (pe_callB call_len_seq (by rfl) nl PySem.boot_len (pa_cons (pv 1) pa_nil)) (pa_cons pe_str pa_nil))))) pss_nil))))), ?_⟩
      exact ⟨_, rfl, g, .dk, rfl, hg, fun H1 S1 => ⟨_, rfl, iteT (iteT (mkO_of2 ((k1 0 "sequence" (due_seq rfl)).mono S1)))⟩⟩
    | lst gs =>
      cases sr with
      | sc u =>
        obtain ⟨pg, rfl, hp⟩ := hg
        refine ⟨_, (pss_cons 
    (ps_if (PW.pt (pw_or (pt_not (pt_val (pcal GS hr pass0 (pa_cons (pv 1) pa_nil)))) (pw_or1 (pt_not (pt_val (pcal GS hr pass0 (pa_cons (pv 2) pa_nil))))))) (pss_one (ps_raise rfl (takes_of rfl rfl rfl rfl) (pmk_oex GB.o GB.i GB.t GB.F hr2 GB.b .nil pass0 rfl GB.m (pa_cons pe_int (pa_cons pe_str pa_nil))))) pss_nil) (pss_cons 
    (ps_if (pt_cmpR op_gt (pe_callB call_len_seq (by rfl) nl PySem.boot_len (pa_cons (pv 1) pa_nil)) (pe_glob (v := .int 60) rfl mG ⟨_, rfl⟩) (nomark _)) (pss_one (ps_raise rfl (takes_of rfl rfl rfl rfl) (pmk_oex GB.o GB.i GB.t GB.F hr2 GB.b .nil pass0 rfl GB.m (pa_cons (pe_glob (v := .int 60) rfl mG ⟨_, rfl⟩) (pa_cons pe_str pa_nil))))) pss_nil) (pss_cons 
    (ps_for (passes_of rfl) rfl (pi_enum (by rfl) ne (pa_cons (pv 1) pa_nil)) (pg_tup (by rfl) (pgs_cons (pg_name (i := 3) sc_check_company.nd rfl (Or.inl rfl)) (pgs_cons (pg_name (i := 4) sc_check_company.nd rfl (Or.inl rfl)) pgs_nil))) (pss_cons 
      (ps_if (pt_not (pt_val (pcal GL hr pass0 (pa_cons (pv 4) pa_nil)))) (pss_one (ps_raise rfl (takes_of rfl rfl rfl rfl) (pmk_oex GB.o GB.i GB.t GB.F hr2 GB.b .nil pass0 rfl GB.m (pa_cons (pv 3) (pa_cons pe_str pa_nil))))) pss_nil) (pss_cons 
      (ps_if (PW.pt (pw_and (pt_cmpR op_gt (pv 3) pe_int (nomark _)) (pw_and1 (pt_cmpR op_le (pv 4) (pe_ix ix_list (pv 1) (pe_op op_sub (pv 3) pe_int) (fun _ _ => rfl)) (nomark _))))) (pss_one (ps_raise rfl (takes_of rfl rfl rfl rfl) (pmk_oex GB.o GB.i GB.t GB.F hr2 GB.b .nil pass0 rfl GB.m (pa_cons (pv 3) (pa_cons pe_str pa_nil))))) pss_nil) (pss_cons 
      (ps_if (pt_cmpR op_ge (pv 3) (pe_callB call_len_seq (by rfl) nl PySem.boot_len (pa_cons (pv 2) pa_nil)) (nomark _)) (pss_one (ps_raise rfl (takes_of rfl rfl rfl rfl) (pmk_oex GB.o GB.i GB.t GB.F hr2 GB.b .nil pass0 rfl GB.m (pa_cons (pv 3) (pa_cons pe_str pa_nil))))) pss_nil) (pss_one 
      (ps_expr (pcal GR hr (passes_call (takes_of rfl rfl rfl rfl) (fun _ _ _ _ h => h)) (pa_cons (pv 0) (pa_cons (pv 3) (pa_cons (pe_ix ix_list (pv 2) (pv 3) (fun _ _ => rfl)) (pa_cons (pv 3) pa_nil))))))))))) (pss_one 
    (ps_if (pt_cmpR op_gt (pe_callB call_len_seq (by rfl) nl PySem.boot_len (pa_cons (pv 2) pa_nil)) (pe_callB call_len_seq (by rfl) nl PySem.boot_len (pa_cons (pv 1) pa_nil)) (nomark _)) (pss_one (ps_raise rfl (takes_of rfl rfl rfl rfl) (pmk_oex GB.o GB.i GB.t GB.F hr2 GB.b .nil pass0 rfl GB.m (pa_cons (pe_callB call_len_seq (by rfl) nl PySem.boot_len (pa_cons (pv 1) pa_nil)) (pa_cons pe_str pa_nil))))) pss_nil))))), ?_⟩
        exact ⟨_, rfl, _, Sh.lst gs, rfl, ⟨pg, rfl, hp⟩, fun H1 S1 => ⟨_, rfl, iteF ⟨_, rfl, r, (.sc u), rfl, hrr.keep S1, fun H2 S2 => ⟨_, rfl, iteT (mkO_of2 ((k1 0 "sequence" (due_seq rfl)).mono (S1.trans S2)))⟩⟩⟩⟩
      | dk =>
        obtain ⟨pg, rfl, hp⟩ := hg
        refine ⟨_, (pss_cons 
    (ps_if (PW.pt (pw_or (pt_not (pt_val (pcal GS hr pass0 (pa_cons (pv 1) pa_nil)))) (pw_or1 (pt_not (pt_val (pcal GS hr pass0 (pa_cons (pv 2) pa_nil))))))) (pss_one (ps_raise rfl (takes_of rfl rfl rfl rfl) (pmk_oex GB.o GB.i GB.t GB.F hr2 GB.b .nil pass0 rfl GB.m (pa_cons pe_int (pa_cons pe_str pa_nil))))) pss_nil) (pss_cons 
    (ps_if (pt_cmpR op_gt (pe_callB call_len_seq (by rfl) nl PySem.boot_len (pa_cons (pv 1) pa_nil)) (pe_glob (v := .int 60) rfl mG ⟨_, rfl⟩) (nomark _)) (pss_one (ps_raise rfl (takes_of rfl rfl rfl rfl) (pmk_oex GB.o GB.i GB.t GB.F hr2 GB.b .nil pass0 rfl GB.m (pa_cons (pe_glob (v := .int 60) rfl mG ⟨_, rfl⟩) (pa_cons pe_str pa_nil))))) pss_nil) (pss_cons 
    (ps_for (passes_of rfl) rfl (pi_enum (by rfl) ne (pa_cons (pv 1) pa_nil)) (pg_tup (by rfl) (pgs_cons (pg_name (i := 3) sc_check_company.nd rfl (Or.inl rfl)) (pgs_cons (pg_name (i := 4) sc_check_company.nd rfl (Or.inl rfl)) pgs_nil))) (pss_cons 
      (ps_if (pt_not (pt_val (pcal GL hr pass0 (pa_cons (pv 4) pa_nil)))) (pss_one (ps_raise rfl (takes_of rfl rfl rfl rfl) (pmk_oex GB.o GB.i GB.t GB.F hr2 GB.b .nil pass0 rfl GB.m (pa_cons (pv 3) (pa_cons pe_str pa_nil))))) pss_nil) (pss_cons 
      (ps_if (PW.pt (pw_and (pt_cmpR op_gt (pv 3) pe_int (nomark _)) (pw_and1 (pt_cmpR op_le (pv 4) (pe_ix ix_list (pv 1) (pe_op op_sub (pv 3) pe_int) (fun _ _ => rfl)) (nomark _))))) (pss_one (ps_raise rfl (takes_of rfl rfl rfl rfl) (pmk_oex GB.o GB.i GB.t GB.F hr2 GB.b .nil pass0 rfl GB.m (pa_cons (pv 3) (pa_cons pe_str pa_nil))))) pss_nil) (pss_cons 
      (ps_if (pt_cmpR op_ge (pv 3) (pe_callB call_len_seq (by rfl) nl PySem.boot_len (pa_cons (pv 2) pa_nil)) (nomark _)) (pss_one (ps_raise rfl (takes_of rfl rfl rfl rfl) (pmk_oex GB.o GB.i GB.t GB.F hr2 GB.b .nil pass0 rfl GB.m (pa_cons (pv 3) (pa_cons pe_str pa_nil))))) pss_nil) (pss_one 
      (ps_expr (pcal GR hr (passes_call (takes_of rfl rfl rfl rfl) (fun _ _ _ _ h => h)) (pa_cons (pv 0) (pa_cons (pv 3) (pa_cons (pe_ix ix_list (pv 2) (pv 3) (fun _ _ => rfl)) (pa_cons (pv 3) pa_nil))))))))))) (pss_one 
    (ps_if (pt_cmpR op_gt (pe_callB call_len_seq (by rfl) nl PySem.boot_len (pa_cons (pv 2) pa_nil)) (pe_callB call_len_seq (by rfl) nl PySem.boot_len (pa_cons (pv 1) pa_nil)) (nomark _)) (pss_one (ps_raise rfl (takes_of rfl rfl rfl rfl) (pmk_oex GB.o GB.i GB.t GB.F hr2 GB.b .nil pass0 rfl GB.m (pa_cons (pe_callB call_len_seq (by rfl) nl PySem.boot_len (pa_cons (pv 1) pa_nil)) (pa_cons pe_str pa_nil))))) pss_nil))))), ?_⟩
        exact ⟨_, rfl, _, Sh.lst gs, rfl, ⟨pg, rfl, hp⟩, fun H1 S1 => ⟨_, rfl, iteF ⟨_, rfl, r, .dk, rfl, hrr.keep S1, fun H2 S2 => ⟨_, rfl, iteT (mkO_of2 ((k1 0 "sequence" (due_seq rfl)).mono (S1.trans S2)))⟩⟩⟩⟩
      | lst rs =>
        obtain ⟨pg, rfl, hp⟩ := hg
        obtain ⟨pr, rfl, hq⟩ := hrr
        have both : (((Sh.lst gs).isL || (Sh.lst gs).isT) && ((Sh.lst rs).isL || (Sh.lst rs).isT)) = true := rfl
        refine ⟨_, (pss_cons 
    (ps_if (PW.pt (pw_or (pt_not (pt_val (pcal GS hr pass0 (pa_cons (pv 1) pa_nil)))) (pw_or1 (pt_not (pt_val (pcal GS hr pass0 (pa_cons (pv 2) pa_nil))))))) (pss_one (ps_raise rfl (takes_of rfl rfl rfl rfl) (pmk_oex GB.o GB.i GB.t GB.F hr2 GB.b .nil pass0 rfl GB.m (pa_cons pe_int (pa_cons pe_str pa_nil))))) pss_nil) (pss_cons 
    (ps_if (pt_cmpR op_gt (pe_callB call_len_seq (by rfl) nl PySem.boot_len (pa_cons (pv 1) pa_nil)) (pe_glob (v := .int 60) rfl mG ⟨_, rfl⟩) (nomark _)) (pss_one (ps_raise rfl (takes_of rfl rfl rfl rfl) (pmk_oex GB.o GB.i GB.t GB.F hr2 GB.b .nil pass0 rfl GB.m (pa_cons (pe_glob (v := .int 60) rfl mG ⟨_, rfl⟩) (pa_cons pe_str pa_nil))))) pss_nil) (pss_cons 
    (ps_for (passes_of rfl) rfl (pi_enum (by rfl) ne (pa_cons (pv 1) pa_nil)) (pg_tup (by rfl) (pgs_cons (pg_name (i := 3) sc_check_company.nd rfl (Or.inl rfl)) (pgs_cons (pg_name (i := 4) sc_check_company.nd rfl (Or.inl rfl)) pgs_nil))) (pss_cons 
      (ps_if (pt_not (pt_val (pcal GL hr pass0 (pa_cons (pv 4) pa_nil)))) (pss_one (ps_raise rfl (takes_of rfl rfl rfl rfl) (pmk_oex GB.o GB.i GB.t GB.F hr2 GB.b .nil pass0 rfl GB.m (pa_cons (pv 3) (pa_cons pe_str pa_nil))))) pss_nil) (pss_cons 
      (ps_if (PW.pt (pw_and (pt_cmpR op_gt (pv 3) pe_int (nomark _)) (pw_and1 (pt_cmpR op_le (pv 4) (pe_ix ix_list (pv 1) (pe_op op_sub (pv 3) pe_int) (fun _ _ => rfl)) (nomark _))))) (pss_one (ps_raise rfl (takes_of rfl rfl rfl rfl) (pmk_oex GB.o GB.i GB.t GB.F hr2 GB.b .nil pass0 rfl GB.m (pa_cons (pv 3) (pa_cons pe_str pa_nil))))) pss_nil) (pss_cons 
      (ps_if (pt_cmpR op_ge (pv 3) (pe_callB call_len_seq (by rfl) nl PySem.boot_len (pa_cons (pv 2) pa_nil)) (nomark _)) (pss_one (ps_raise rfl (takes_of rfl rfl rfl rfl) (pmk_oex GB.o GB.i GB.t GB.F hr2 GB.b .nil pass0 rfl GB.m (pa_cons (pv 3) (pa_cons pe_str pa_nil))))) pss_nil) (pss_one 
      (ps_expr (pcal GR hr (passes_call (takes_of rfl rfl rfl rfl) (fun _ _ _ _ h => h)) (pa_cons (pv 0) (pa_cons (pv 3) (pa_cons (pe_ix ix_list (pv 2) (pv 3) (fun _ _ => rfl)) (pa_cons (pv 3) pa_nil))))))))))) (pss_one 
    (ps_if (pt_cmpR op_gt (pe_callB call_len_seq (by rfl) nl PySem.boot_len (pa_cons (pv 2) pa_nil)) (pe_callB call_len_seq (by rfl) nl PySem.boot_len (pa_cons (pv 1) pa_nil)) (nomark _)) (pss_one (ps_raise rfl (takes_of rfl rfl rfl rfl) (pmk_oex GB.o GB.i GB.t GB.F hr2 GB.b .nil pass0 rfl GB.m (pa_cons (pe_callB call_len_seq (by rfl) nl PySem.boot_len (pa_cons (pv 1) pa_nil)) (pa_cons pe_str pa_nil))))) pss_nil))))), ?_⟩
        refine ⟨_, rfl, _, Sh.lst gs, rfl, ⟨pg, rfl, hp⟩, fun H1 S1 => ⟨_, rfl, iteF ⟨_, rfl, _, Sh.lst rs, rfl, ⟨pr, rfl, S1 _ _ hq⟩, fun H2 S2' => ⟨_, rfl, iteF ?_⟩⟩⟩⟩
        have S2 := S1.trans S2'
        have eg := S2 _ _ hp
        have er := S2 _ _ hq
        refine ⟨_, rfl, pg, gs, rfl, .inl (SqL.of eg), _, _, rfl, rfl, _, rfl, ?_⟩
        refine ifD (fun c => mkO_of2 ((k1 60 "many" (due_many both (by show 60 < gs.length; omega))).mono S2)) (fun c => ?_)
        have c60 : gs.length ≤ 60 := by omega
        have rl : rs.length = ss.length := hs.len
        refine ⟨_, rfl, pg, gs, rfl, SqL.of eg, for_enum (K := K) (a := pg) (xs := gs) (fun i σ H' => ∃ v3 v4 : Option V, σ = [some (.ref t), some (.ref pg), some (.ref pr), v3, v4] ∧ Same H2 H' ∧ ∀ a, a < i → wordC ns.length gs ss a = none)
          ⟨none, none, rfl, Same.refl _, fun a ha => absurd ha (Nat.not_lt_zero a)⟩ (fun i σ H' _ ⟨_, _, _, S, _⟩ => SqL.of (S _ _ eg)) ?_ ?_⟩
        · rintro i x σ H' T hx ⟨v3, v4, rfl, S3, hb⟩ hT0
          have hi : i < gs.length := (List.getElem?_eq_some_iff.mp hx).1
          have S4 : Same H2 (upd H' T (.tup [.int (i : Nat), x])) := S3.trans (new_same hT0)
          refine ⟨T, _, rfl, SqT.of upd_same, rfl, _, _, rfl, _, _, rfl, rfl, ?_⟩
          generalize upd H' T (.tup [.int (i : Nat), x]) = H4 at S4
          have eg4 := S4 _ _ eg
          have er4 := S4 _ _ er
          have SA := S2.trans S4
          obtain ⟨sx, isx⟩ := (kg.keep SA) x (List.mem_of_getElem? hx)
          refine ⟨_, rfl, x, sx, rfl, isx, _, rfl, ?_⟩
          cases e : wholeB x 0 1000000000 with
          | false => exact iteT ⟨_, rfl, mkO_of2 ((k1 (i : Nat) "label" (due_word both c60 hb (word_label hx e) hi)).mono SA)⟩
          | true =>
            obtain ⟨b, rfl, _, _⟩ := whole_int e
            refine iteF ⟨_, rfl, _, _, rfl, rfl, _, rfl, ?_⟩
            cases i with
            | zero =>
              refine ifD (fun c => absurd c (by decide)) (fun _ => ?_)
              have o : ordB gs 0 = false := ord_zero
              refine ⟨_, rfl, _, rfl, pr, rs, rfl, .inl (SqL.of er4), _, _, rfl, rfl, _, rfl, ?_⟩
              refine ifD (fun c => ⟨_, rfl, mkO_of2 ((k1 ((0 : Nat) : Int) "row" (due_word both c60 hb (word_norow hx e o (List.getElem?_eq_none_iff.mpr (by omega))) hi)).mono SA)⟩) (fun c => ?_)
              obtain ⟨z, hz⟩ : ∃ z, rs[0]? = some z := ⟨rs[0]'(by omega), List.getElem?_eq_getElem (by omega)⟩
              obtain ⟨sz, esz, isz, knz⟩ := (hs.keep SA).at_ hz
              refine ⟨_, rfl, _, rfl, _, rfl, _, rfl, _, _, _, _, rfl, rfl, SqL.of er4, at_of (j := 0) (v := z) rfl hz, _, rfl, t, ns, 0, 0, z, sz, rfl, hT.keep SA, isz, knz, fun u hu => (k1 ((0 : Nat) : Int) u (due_word both c60 hb ((word_row hx e o esz).trans hu) hi)).mono SA, fun hn H5 S5 => ⟨_, _, rfl, S4.trans S5, fun a ha => ?_⟩⟩
              rcases Nat.lt_or_ge a (0) with ha2 | ha2
              · exact hb a ha2
              · obtain rfl : a = 0 := by omega
                rw [word_row hx e o esz]
                exact hn
            | succ i =>
              refine ifD (fun _ => ?_) (fun c => absurd (show (0 : Int) < ((i + 1 : Nat) : Int) by omega) c)
              obtain ⟨y, hy⟩ : ∃ y, gs[i]? = some y := ⟨gs[i], List.getElem?_eq_getElem (by omega)⟩
              have wi : wholeB y 0 1000000000 = true := by
                cases ey : wholeB y 0 1000000000 with
                | true => rfl
                | false =>
                  have := hb i (by omega)
                  rw [word_label hy ey] at this
                  cases this
              obtain ⟨a, rfl, _, _⟩ := whole_int wi
              have oo := ord_ints hy hx
              refine ⟨_, rfl, _, rfl, _, rfl, _, _, rfl, rfl, _, _, _, _, rfl, rfl, SqL.of eg4, at_of (j := i) (v := .int a) (by omega) hy, _, _, rfl, rfl, _, rfl, ?_⟩
              refine ifD (fun c => ⟨_, rfl, mkO_of2 ((k1 ((i + 1 : Nat) : Int) "order" (due_word both c60 hb (word_order hx e (oo.trans (decide_eq_true c))) hi)).mono SA)⟩) (fun c => ?_)
              have o : ordB gs (i + 1) = false := by
                rw [oo]
                exact decide_eq_false c
              refine ⟨_, rfl, _, rfl, pr, rs, rfl, .inl (SqL.of er4), _, _, rfl, rfl, _, rfl, ?_⟩
              refine ifD (fun c => ⟨_, rfl, mkO_of2 ((k1 (((i + 1) : Nat) : Int) "row" (due_word both c60 hb (word_norow hx e o (List.getElem?_eq_none_iff.mpr (by omega))) hi)).mono SA)⟩) (fun c => ?_)
              obtain ⟨z, hz⟩ : ∃ z, rs[(i + 1)]? = some z := ⟨rs[(i + 1)]'(by omega), List.getElem?_eq_getElem (by omega)⟩
              obtain ⟨sz, esz, isz, knz⟩ := (hs.keep SA).at_ hz
              refine ⟨_, rfl, _, rfl, _, rfl, _, rfl, _, _, _, _, rfl, rfl, SqL.of er4, at_of (j := (i + 1)) (v := z) rfl hz, _, rfl, t, ns, (i + 1), (i + 1), z, sz, rfl, hT.keep SA, isz, knz, fun u hu => (k1 (((i + 1) : Nat) : Int) u (due_word both c60 hb ((word_row hx e o esz).trans hu) hi)).mono SA, fun hn H5 S5 => ⟨_, _, rfl, S4.trans S5, fun a ha => ?_⟩⟩
              rcases Nat.lt_or_ge a ((i + 1)) with ha2 | ha2
              · exact hb a ha2
              · obtain rfl : a = (i + 1) := by omega
                rw [word_row hx e o esz]
                exact hn
        · rintro σ H' ⟨v3, v4, rfl, S3, hb⟩
          have eg3 := S3 _ _ eg
          have er3 := S3 _ _ er
          refine ⟨_, rfl, pr, rs, rfl, .inl (SqL.of er3), _, rfl, pg, gs, rfl, .inl (SqL.of eg3), _, _, rfl, rfl, _, rfl, ?_⟩
          refine ifD (fun c => ⟨_, rfl, pg, gs, rfl, .inl (SqL.of eg3), mkO_of2 ((k1 _ "rows" (due_rows both c60 hb (by show gs.length < rs.length; omega))).mono (S2.trans S3))⟩) (fun c => ?_)
          exact k2 (due_ok both c60 hb (by show ¬ gs.length < rs.length; omega)) _ (S2.trans S3)
      | tup rs =>
        obtain ⟨pg, rfl, hp⟩ := hg
        obtain ⟨pr, rfl, hq⟩ := hrr
        have both : (((Sh.lst gs).isL || (Sh.lst gs).isT) && ((Sh.tup rs).isL || (Sh.tup rs).isT)) = true := rfl
        refine ⟨_, (pss_cons 
    (ps_if (PW.pt (pw_or (pt_not (pt_val (pcal GS hr pass0 (pa_cons (pv 1) pa_nil)))) (pw_or1 (pt_not (pt_val (pcal GS hr pass0 (pa_cons (pv 2) pa_nil))))))) (pss_one (ps_raise rfl (takes_of rfl rfl rfl rfl) (pmk_oex GB.o GB.i GB.t GB.F hr2 GB.b .nil pass0 rfl GB.m (pa_cons pe_int (pa_cons pe_str pa_nil))))) pss_nil) (pss_cons 
    (ps_if (pt_cmpR op_gt (pe_callB call_len_seq (by rfl) nl PySem.boot_len (pa_cons (pv 1) pa_nil)) (pe_glob (v := .int 60) rfl mG ⟨_, rfl⟩) (nomark _)) (pss_one (ps_raise rfl (takes_of rfl rfl rfl rfl) (pmk_oex GB.o GB.i GB.t GB.F hr2 GB.b .nil pass0 rfl GB.m (pa_cons (pe_glob (v := .int 60) rfl mG ⟨_, rfl⟩) (pa_cons pe_str pa_nil))))) pss_nil) (pss_cons 
    (ps_for (passes_of rfl) rfl (pi_enum (by rfl) ne (pa_cons (pv 1) pa_nil)) (pg_tup (by rfl) (pgs_cons (pg_name (i := 3) sc_check_company.nd rfl (Or.inl rfl)) (pgs_cons (pg_name (i := 4) sc_check_company.nd rfl (Or.inl rfl)) pgs_nil))) (pss_cons 
      (ps_if (pt_not (pt_val (pcal GL hr pass0 (pa_cons (pv 4) pa_nil)))) (pss_one (ps_raise rfl (takes_of rfl rfl rfl rfl) (pmk_oex GB.o GB.i GB.t GB.F hr2 GB.b .nil pass0 rfl GB.m (pa_cons (pv 3) (pa_cons pe_str pa_nil))))) pss_nil) (pss_cons 
      (ps_if (PW.pt (pw_and (pt_cmpR op_gt (pv 3) pe_int (nomark _)) (pw_and1 (pt_cmpR op_le (pv 4) (pe_ix ix_list (pv 1) (pe_op op_sub (pv 3) pe_int) (fun _ _ => rfl)) (nomark _))))) (pss_one (ps_raise rfl (takes_of rfl rfl rfl rfl) (pmk_oex GB.o GB.i GB.t GB.F hr2 GB.b .nil pass0 rfl GB.m (pa_cons (pv 3) (pa_cons pe_str pa_nil))))) pss_nil) (pss_cons 
      (ps_if (pt_cmpR op_ge (pv 3) (pe_callB call_len_seq (by rfl) nl PySem.boot_len (pa_cons (pv 2) pa_nil)) (nomark _)) (pss_one (ps_raise rfl (takes_of rfl rfl rfl rfl) (pmk_oex GB.o GB.i GB.t GB.F hr2 GB.b .nil pass0 rfl GB.m (pa_cons (pv 3) (pa_cons pe_str pa_nil))))) pss_nil) (pss_one 
      (ps_expr (pcal GR hr (passes_call (takes_of rfl rfl rfl rfl) (fun _ _ _ _ h => h)) (pa_cons (pv 0) (pa_cons (pv 3) (pa_cons (pe_ix ix_tup (pv 2) (pv 3) (fun _ _ => rfl)) (pa_cons (pv 3) pa_nil))))))))))) (pss_one 
    (ps_if (pt_cmpR op_gt (pe_callB call_len_seq (by rfl) nl PySem.boot_len (pa_cons (pv 2) pa_nil)) (pe_callB call_len_seq (by rfl) nl PySem.boot_len (pa_cons (pv 1) pa_nil)) (nomark _)) (pss_one (ps_raise rfl (takes_of rfl rfl rfl rfl) (pmk_oex GB.o GB.i GB.t GB.F hr2 GB.b .nil pass0 rfl GB.m (pa_cons (pe_callB call_len_seq (by rfl) nl PySem.boot_len (pa_cons (pv 1) pa_nil)) (pa_cons pe_str pa_nil))))) pss_nil))))), ?_⟩
        refine ⟨_, rfl, _, Sh.lst gs, rfl, ⟨pg, rfl, hp⟩, fun H1 S1 => ⟨_, rfl, iteF ⟨_, rfl, _, Sh.tup rs, rfl, ⟨pr, rfl, S1 _ _ hq⟩, fun H2 S2' => ⟨_, rfl, iteF ?_⟩⟩⟩⟩
        have S2 := S1.trans S2'
        have eg := S2 _ _ hp
        have er := S2 _ _ hq
        refine ⟨_, rfl, pg, gs, rfl, .inl (SqL.of eg), _, _, rfl, rfl, _, rfl, ?_⟩
        refine ifD (fun c => mkO_of2 ((k1 60 "many" (due_many both (by show 60 < gs.length; omega))).mono S2)) (fun c => ?_)
        have c60 : gs.length ≤ 60 := by omega
        have rl : rs.length = ss.length := hs.len
        refine ⟨_, rfl, pg, gs, rfl, SqL.of eg, for_enum (K := K) (a := pg) (xs := gs) (fun i σ H' => ∃ v3 v4 : Option V, σ = [some (.ref t), some (.ref pg), some (.ref pr), v3, v4] ∧ Same H2 H' ∧ ∀ a, a < i → wordC ns.length gs ss a = none)
          ⟨none, none, rfl, Same.refl _, fun a ha => absurd ha (Nat.not_lt_zero a)⟩ (fun i σ H' _ ⟨_, _, _, S, _⟩ => SqL.of (S _ _ eg)) ?_ ?_⟩
        · rintro i x σ H' T hx ⟨v3, v4, rfl, S3, hb⟩ hT0
          have hi : i < gs.length := (List.getElem?_eq_some_iff.mp hx).1
          have S4 : Same H2 (upd H' T (.tup [.int (i : Nat), x])) := S3.trans (new_same hT0)
          refine ⟨T, _, rfl, SqT.of upd_same, rfl, _, _, rfl, _, _, rfl, rfl, ?_⟩
          generalize upd H' T (.tup [.int (i : Nat), x]) = H4 at S4
          have eg4 := S4 _ _ eg
          have er4 := S4 _ _ er
          have SA := S2.trans S4
          obtain ⟨sx, isx⟩ := (kg.keep SA) x (List.mem_of_getElem? hx)
          refine ⟨_, rfl, x, sx, rfl, isx, _, rfl, ?_⟩
          cases e : wholeB x 0 1000000000 with
          | false => exact iteT ⟨_, rfl, mkO_of2 ((k1 (i : Nat) "label" (due_word both c60 hb (word_label hx e) hi)).mono SA)⟩
          | true =>
            obtain ⟨b, rfl, _, _⟩ := whole_int e
            refine iteF ⟨_, rfl, _, _, rfl, rfl, _, rfl, ?_⟩
            cases i with
            | zero =>
              refine ifD (fun c => absurd c (by decide)) (fun _ => ?_)
              have o : ordB gs 0 = false := ord_zero
              refine ⟨_, rfl, _, rfl, pr, rs, rfl, .inr (SqT.of er4), _, _, rfl, rfl, _, rfl, ?_⟩
              refine ifD (fun c => ⟨_, rfl, mkO_of2 ((k1 ((0 : Nat) : Int) "row" (due_word both c60 hb (word_norow hx e o (List.getElem?_eq_none_iff.mpr (by omega))) hi)).mono SA)⟩) (fun c => ?_)
              obtain ⟨z, hz⟩ : ∃ z, rs[0]? = some z := ⟨rs[0]'(by omega), List.getElem?_eq_getElem (by omega)⟩
              obtain ⟨sz, esz, isz, knz⟩ := (hs.keep SA).at_ hz
              refine ⟨_, rfl, _, rfl, _, rfl, _, rfl, _, _, _, _, rfl, rfl, SqT.of er4, at_of (j := 0) (v := z) rfl hz, _, rfl, t, ns, 0, 0, z, sz, rfl, hT.keep SA, isz, knz, fun u hu => (k1 ((0 : Nat) : Int) u (due_word both c60 hb ((word_row hx e o esz).trans hu) hi)).mono SA, fun hn H5 S5 => ⟨_, _, rfl, S4.trans S5, fun a ha => ?_⟩⟩
              rcases Nat.lt_or_ge a (0) with ha2 | ha2
              · exact hb a ha2
              · obtain rfl : a = 0 := by omega
                rw [word_row hx e o esz]
                exact hn
            | succ i =>
              refine ifD (fun _ => ?_) (fun c => absurd (show (0 : Int) < ((i + 1 : Nat) : Int) by omega) c)
              obtain ⟨y, hy⟩ : ∃ y, gs[i]? = some y := ⟨gs[i], List.getElem?_eq_getElem (by omega)⟩
              have wi : wholeB y 0 1000000000 = true := by
                cases ey : wholeB y 0 1000000000 with
                | true => rfl
                | false =>
                  have := hb i (by omega)
                  rw [word_label hy ey] at this
                  cases this
              obtain ⟨a, rfl, _, _⟩ := whole_int wi
              have oo := ord_ints hy hx
              refine ⟨_, rfl, _, rfl, _, rfl, _, _, rfl, rfl, _, _, _, _, rfl, rfl, SqL.of eg4, at_of (j := i) (v := .int a) (by omega) hy, _, _, rfl, rfl, _, rfl, ?_⟩
              refine ifD (fun c => ⟨_, rfl, mkO_of2 ((k1 ((i + 1 : Nat) : Int) "order" (due_word both c60 hb (word_order hx e (oo.trans (decide_eq_true c))) hi)).mono SA)⟩) (fun c => ?_)
              have o : ordB gs (i + 1) = false := by
                rw [oo]
                exact decide_eq_false c
              refine ⟨_, rfl, _, rfl, pr, rs, rfl, .inr (SqT.of er4), _, _, rfl, rfl, _, rfl, ?_⟩
              refine ifD (fun c => ⟨_, rfl, mkO_of2 ((k1 (((i + 1) : Nat) : Int) "row" (due_word both c60 hb (word_norow hx e o (List.getElem?_eq_none_iff.mpr (by omega))) hi)).mono SA)⟩) (fun c => ?_)
              obtain ⟨z, hz⟩ : ∃ z, rs[(i + 1)]? = some z := ⟨rs[(i + 1)]'(by omega), List.getElem?_eq_getElem (by omega)⟩
              obtain ⟨sz, esz, isz, knz⟩ := (hs.keep SA).at_ hz
              refine ⟨_, rfl, _, rfl, _, rfl, _, rfl, _, _, _, _, rfl, rfl, SqT.of er4, at_of (j := (i + 1)) (v := z) rfl hz, _, rfl, t, ns, (i + 1), (i + 1), z, sz, rfl, hT.keep SA, isz, knz, fun u hu => (k1 (((i + 1) : Nat) : Int) u (due_word both c60 hb ((word_row hx e o esz).trans hu) hi)).mono SA, fun hn H5 S5 => ⟨_, _, rfl, S4.trans S5, fun a ha => ?_⟩⟩
              rcases Nat.lt_or_ge a ((i + 1)) with ha2 | ha2
              · exact hb a ha2
              · obtain rfl : a = (i + 1) := by omega
                rw [word_row hx e o esz]
                exact hn
        · rintro σ H' ⟨v3, v4, rfl, S3, hb⟩
          have eg3 := S3 _ _ eg
          have er3 := S3 _ _ er
          refine ⟨_, rfl, pr, rs, rfl, .inr (SqT.of er3), _, rfl, pg, gs, rfl, .inl (SqL.of eg3), _, _, rfl, rfl, _, rfl, ?_⟩
          refine ifD (fun c => ⟨_, rfl, pg, gs, rfl, .inl (SqL.of eg3), mkO_of2 ((k1 _ "rows" (due_rows both c60 hb (by show gs.length < rs.length; omega))).mono (S2.trans S3))⟩) (fun c => ?_)
          exact k2 (due_ok both c60 hb (by show ¬ gs.length < rs.length; omega)) _ (S2.trans S3)
    | tup gs =>
      cases sr with
      | sc u =>
        obtain ⟨pg, rfl, hp⟩ := hg
        refine ⟨_, (pss_cons 
    (ps_if (PW.pt (pw_or (pt_not (pt_val (pcal GS hr pass0 (pa_cons (pv 1) pa_nil)))) (pw_or1 (pt_not (pt_val (pcal GS hr pass0 (pa_cons (pv 2) pa_nil))))))) (pss_one (ps_raise rfl (takes_of rfl rfl rfl rfl) (pmk_oex GB.o GB.i GB.t GB.F hr2 GB.b .nil pass0 rfl GB.m (pa_cons pe_int (pa_cons pe_str pa_nil))))) pss_nil) (pss_cons 
    (ps_if (pt_cmpR op_gt (pe_callB call_len_seq (by rfl) nl PySem.boot_len (pa_cons (pv 1) pa_nil)) (pe_glob (v := .int 60) rfl mG ⟨_, rfl⟩) (nomark _)) (pss_one (ps_raise rfl (takes_of rfl rfl rfl rfl) (pmk_oex GB.o GB.i GB.t GB.F hr2 GB.b .nil pass0 rfl GB.m (pa_cons (pe_glob (v := .int 60) rfl mG ⟨_, rfl⟩) (pa_cons pe_str pa_nil))))) pss_nil) (pss_cons 
    (ps_for (passes_of rfl) rfl (pi_enumT (by rfl) ne (pa_cons (pv 1) pa_nil)) (pg_tup (by rfl) (pgs_cons (pg_name (i := 3) sc_check_company.nd rfl (Or.inl rfl)) (pgs_cons (pg_name (i := 4) sc_check_company.nd rfl (Or.inl rfl)) pgs_nil))) (pss_cons 
      (ps_if (pt_not (pt_val (pcal GL hr pass0 (pa_cons (pv 4) pa_nil)))) (pss_one (ps_raise rfl (takes_of rfl rfl rfl rfl) (pmk_oex GB.o GB.i GB.t GB.F hr2 GB.b .nil pass0 rfl GB.m (pa_cons (pv 3) (pa_cons pe_str pa_nil))))) pss_nil) (pss_cons 
      (ps_if (PW.pt (pw_and (pt_cmpR op_gt (pv 3) pe_int (nomark _)) (pw_and1 (pt_cmpR op_le (pv 4) (pe_ix ix_tup (pv 1) (pe_op op_sub (pv 3) pe_int) (fun _ _ => rfl)) (nomark _))))) (pss_one (ps_raise rfl (takes_of rfl rfl rfl rfl) (pmk_oex GB.o GB.i GB.t GB.F hr2 GB.b .nil pass0 rfl GB.m (pa_cons (pv 3) (pa_cons pe_str pa_nil))))) pss_nil) (pss_cons 
      (ps_if (pt_cmpR op_ge (pv 3) (pe_callB call_len_seq (by rfl) nl PySem.boot_len (pa_cons (pv 2) pa_nil)) (nomark _)) (pss_one (ps_raise rfl (takes_of rfl rfl rfl rfl) (pmk_oex GB.o GB.i GB.t GB.F hr2 GB.b .nil pass0 rfl GB.m (pa_cons (pv 3) (pa_cons pe_str pa_nil))))) pss_nil) (pss_one 
      (ps_expr (pcal GR hr (passes_call (takes_of rfl rfl rfl rfl) (fun _ _ _ _ h => h)) (pa_cons (pv 0) (pa_cons (pv 3) (pa_cons (pe_ix ix_list (pv 2) (pv 3) (fun _ _ => rfl)) (pa_cons (pv 3) pa_nil))))))))))) (pss_one 
    (ps_if (pt_cmpR op_gt (pe_callB call_len_seq (by rfl) nl PySem.boot_len (pa_cons (pv 2) pa_nil)) (pe_callB call_len_seq (by rfl) nl PySem.boot_len (pa_cons (pv 1) pa_nil)) (nomark _)) (pss_one (ps_raise rfl (takes_of rfl rfl rfl rfl) (pmk_oex GB.o GB.i GB.t GB.F hr2 GB.b .nil pass0 rfl GB.m (pa_cons (pe_callB call_len_seq (by rfl) nl PySem.boot_len (pa_cons (pv 1) pa_nil)) (pa_cons pe_str pa_nil))))) pss_nil))))), ?_⟩
        exact ⟨_, rfl, _, Sh.tup gs, rfl, ⟨pg, rfl, hp⟩, fun H1 S1 => ⟨_, rfl, iteF ⟨_, rfl, r, (.sc u), rfl, hrr.keep S1, fun H2 S2 => ⟨_, rfl, iteT (mkO_of2 ((k1 0 "sequence" (due_seq rfl)).mono (S1.trans S2)))⟩⟩⟩⟩
      | dk =>
        obtain ⟨pg, rfl, hp⟩ := hg
        refine ⟨_, (pss_cons 
    (ps_if (PW.pt (pw_or (pt_not (pt_val (pcal GS hr pass0 (pa_cons (pv 1) pa_nil)))) (pw_or1 (pt_not (pt_val (pcal GS hr pass0 (pa_cons (pv 2) pa_nil))))))) (pss_one (ps_raise rfl (takes_of rfl rfl rfl rfl) (pmk_oex GB.o GB.i GB.t GB.F hr2 GB.b .nil pass0 rfl GB.m (pa_cons pe_int (pa_cons pe_str pa_nil))))) pss_nil) (pss_cons 
    (ps_if (pt_cmpR op_gt (pe_callB call_len_seq (by rfl) nl PySem.boot_len (pa_cons (pv 1) pa_nil)) (pe_glob (v := .int 60) rfl mG ⟨_, rfl⟩) (nomark _)) (pss_one (ps_raise rfl (takes_of rfl rfl rfl rfl) (pmk_oex GB.o GB.i GB.t GB.F hr2 GB.b .nil pass0 rfl GB.m (pa_cons (pe_glob (v := .int 60) rfl mG ⟨_, rfl⟩) (pa_cons pe_str pa_nil))))) pss_nil) (pss_cons 
    (ps_for (passes_of rfl) rfl (pi_enumT (by rfl) ne (pa_cons (pv 1) pa_nil)) (pg_tup (by rfl) (pgs_cons (pg_name (i := 3) sc_check_company.nd rfl (Or.inl rfl)) (pgs_cons (pg_name (i := 4) sc_check_company.nd rfl (Or.inl rfl)) pgs_nil))) (pss_cons 
      (ps_if (pt_not (pt_val (pcal GL hr pass0 (pa_cons (pv 4) pa_nil)))) (pss_one (ps_raise rfl (takes_of rfl rfl rfl rfl) (pmk_oex GB.o GB.i GB.t GB.F hr2 GB.b .nil pass0 rfl GB.m (pa_cons (pv 3) (pa_cons pe_str pa_nil))))) pss_nil) (pss_cons 
      (ps_if (PW.pt (pw_and (pt_cmpR op_gt (pv 3) pe_int (nomark _)) (pw_and1 (pt_cmpR op_le (pv 4) (pe_ix ix_tup (pv 1) (pe_op op_sub (pv 3) pe_int) (fun _ _ => rfl)) (nomark _))))) (pss_one (ps_raise rfl (takes_of rfl rfl rfl rfl) (pmk_oex GB.o GB.i GB.t GB.F hr2 GB.b .nil pass0 rfl GB.m (pa_cons (pv 3) (pa_cons pe_str pa_nil))))) pss_nil) (pss_cons 
      (ps_if (pt_cmpR op_ge (pv 3) (pe_callB call_len_seq (by rfl) nl PySem.boot_len (pa_cons (pv 2) pa_nil)) (nomark _)) (pss_one (ps_raise rfl (takes_of rfl rfl rfl rfl) (pmk_oex GB.o GB.i GB.t GB.F hr2 GB.b .nil pass0 rfl GB.m (pa_cons (pv 3) (pa_cons pe_str pa_nil))))) pss_nil) (pss_one 
      (ps_expr (pcal GR hr (passes_call (takes_of rfl rfl rfl rfl) (fun _ _ _ _ h => h)) (pa_cons (pv 0) (pa_cons (pv 3) (pa_cons (pe_ix ix_list (pv 2) (pv 3) (fun _ _ => rfl)) (pa_cons (pv 3) pa_nil))))))))))) (pss_one 
    (ps_if (pt_cmpR op_gt (pe_callB call_len_seq (by rfl) nl PySem.boot_len (pa_cons (pv 2) pa_nil)) (pe_callB call_len_seq (by rfl) nl PySem.boot_len (pa_cons (pv 1) pa_nil)) (nomark _)) (pss_one (ps_raise rfl (takes_of rfl rfl rfl rfl) (pmk_oex GB.o GB.i GB.t GB.F hr2 GB.b .nil pass0 rfl GB.m (pa_cons (pe_callB call_len_seq (by rfl) nl PySem.boot_len (pa_cons (pv 1) pa_nil)) (pa_cons pe_str pa_nil))))) pss_nil))))), ?_⟩
        exact ⟨_, rfl, _, Sh.tup gs, rfl, ⟨pg, rfl, hp⟩, fun H1 S1 => ⟨_, rfl, iteF ⟨_, rfl, r, .dk, rfl, hrr.keep S1, fun H2 S2 => ⟨_, rfl, iteT (mkO_of2 ((k1 0 "sequence" (due_seq rfl)).mono (S1.trans S2)))⟩⟩⟩⟩
      | lst rs =>
        obtain ⟨pg, rfl, hp⟩ := hg
        obtain ⟨pr, rfl, hq⟩ := hrr
        have both : (((Sh.tup gs).isL || (Sh.tup gs).isT) && ((Sh.lst rs).isL || (Sh.lst rs).isT)) = true := rfl
        refine ⟨_, (pss_cons 
    (ps_if (PW.pt (pw_or (pt_not (pt_val (pcal GS hr pass0 (pa_cons (pv 1) pa_nil)))) (pw_or1 (pt_not (pt_val (pcal GS hr pass0 (pa_cons (pv 2) pa_nil))))))) (pss_one (ps_raise rfl (takes_of rfl rfl rfl rfl) (pmk_oex GB.o GB.i GB.t GB.F hr2 GB.b .nil pass0 rfl GB.m (pa_cons pe_int (pa_cons pe_str pa_nil))))) pss_nil) (pss_cons 
    (ps_if (pt_cmpR op_gt (pe_callB call_len_seq (by rfl) nl PySem.boot_len (pa_cons (pv 1) pa_nil)) (pe_glob (v := .int 60) rfl mG ⟨_, rfl⟩) (nomark _)) (pss_one (ps_raise rfl (takes_of rfl rfl rfl rfl) (pmk_oex GB.o GB.i GB.t GB.F hr2 GB.b .nil pass0 rfl GB.m (pa_cons (pe_glob (v := .int 60) rfl mG ⟨_, rfl⟩) (pa_cons pe_str pa_nil))))) pss_nil) (pss_cons 
    (ps_for (passes_of rfl) rfl (pi_enumT (by rfl) ne (pa_cons (pv 1) pa_nil)) (pg_tup (by rfl) (pgs_cons (pg_name (i := 3) sc_check_company.nd rfl (Or.inl rfl)) (pgs_cons (pg_name (i := 4) sc_check_company.nd rfl (Or.inl rfl)) pgs_nil))) (pss_cons 
      (ps_if (pt_not (pt_val (pcal GL hr pass0 (pa_cons (pv 4) pa_nil)))) (pss_one (ps_raise rfl (takes_of rfl rfl rfl rfl) (pmk_oex GB.o GB.i GB.t GB.F hr2 GB.b .nil pass0 rfl GB.m (pa_cons (pv 3) (pa_cons pe_str pa_nil))))) pss_nil) (pss_cons 
      (ps_if (PW.pt (pw_and (pt_cmpR op_gt (pv 3) pe_int (nomark _)) (pw_and1 (pt_cmpR op_le (pv 4) (pe_ix ix_tup (pv 1) (pe_op op_sub (pv 3) pe_int) (fun _ _ => rfl)) (nomark _))))) (pss_one (ps_raise rfl (takes_of rfl rfl rfl rfl) (pmk_oex GB.o GB.i GB.t GB.F hr2 GB.b .nil pass0 rfl GB.m (pa_cons (pv 3) (pa_cons pe_str pa_nil))))) pss_nil) (pss_cons 
      (ps_if (pt_cmpR op_ge (pv 3) (pe_callB call_len_seq (by rfl) nl PySem.boot_len (pa_cons (pv 2) pa_nil)) (nomark _)) (pss_one (ps_raise rfl (takes_of rfl rfl rfl rfl) (pmk_oex GB.o GB.i GB.t GB.F hr2 GB.b .nil pass0 rfl GB.m (pa_cons (pv 3) (pa_cons pe_str pa_nil))))) pss_nil) (pss_one 
      (ps_expr (pcal GR hr (passes_call (takes_of rfl rfl rfl rfl) (fun _ _ _ _ h => h)) (pa_cons (pv 0) (pa_cons (pv 3) (pa_cons (pe_ix ix_list (pv 2) (pv 3) (fun _ _ => rfl)) (pa_cons (pv 3) pa_nil))))))))))) (pss_one 
    (ps_if (pt_cmpR op_gt (pe_callB call_len_seq (by rfl) nl PySem.boot_len (pa_cons (pv 2) pa_nil)) (pe_callB call_len_seq (by rfl) nl PySem.boot_len (pa_cons (pv 1) pa_nil)) (nomark _)) (pss_one (ps_raise rfl (takes_of rfl rfl rfl rfl) (pmk_oex GB.o GB.i GB.t GB.F hr2 GB.b .nil pass0 rfl GB.m (pa_cons (pe_callB call_len_seq (by rfl) nl PySem.boot_len (pa_cons (pv 1) pa_nil)) (pa_cons pe_str pa_nil))))) pss_nil))))), ?_⟩
        refine ⟨_, rfl, _, Sh.tup gs, rfl, ⟨pg, rfl, hp⟩, fun H1 S1 => ⟨_, rfl, iteF ⟨_, rfl, _, Sh.lst rs, rfl, ⟨pr, rfl, S1 _ _ hq⟩, fun H2 S2' => ⟨_, rfl, iteF ?_⟩⟩⟩⟩
        have S2 := S1.trans S2'
        have eg := S2 _ _ hp
        have er := S2 _ _ hq
        refine ⟨_, rfl, pg, gs, rfl, .inr (SqT.of eg), _, _, rfl, rfl, _, rfl, ?_⟩
        refine ifD (fun c => mkO_of2 ((k1 60 "many" (due_many both (by show 60 < gs.length; omega))).mono S2)) (fun c => ?_)
        have c60 : gs.length ≤ 60 := by omega
        have rl : rs.length = ss.length := hs.len
        refine ⟨_, rfl, pg, gs, rfl, SqT.of eg, for_enumT (K := K) (a := pg) (xs := gs) (fun i σ H' => ∃ v3 v4 : Option V, σ = [some (.ref t), some (.ref pg), some (.ref pr), v3, v4] ∧ Same H2 H' ∧ ∀ a, a < i → wordC ns.length gs ss a = none)
          ⟨none, none, rfl, Same.refl _, fun a ha => absurd ha (Nat.not_lt_zero a)⟩ (fun i σ H' _ ⟨_, _, _, S, _⟩ => SqT.of (S _ _ eg)) ?_ ?_⟩
        · rintro i x σ H' T hx ⟨v3, v4, rfl, S3, hb⟩ hT0
          have hi : i < gs.length := (List.getElem?_eq_some_iff.mp hx).1
          have S4 : Same H2 (upd H' T (.tup [.int (i : Nat), x])) := S3.trans (new_same hT0)
          refine ⟨T, _, rfl, SqT.of upd_same, rfl, _, _, rfl, _, _, rfl, rfl, ?_⟩
          generalize upd H' T (.tup [.int (i : Nat), x]) = H4 at S4
          have eg4 := S4 _ _ eg
          have er4 := S4 _ _ er
          have SA := S2.trans S4
          obtain ⟨sx, isx⟩ := (kg.keep SA) x (List.mem_of_getElem? hx)
          refine ⟨_, rfl, x, sx, rfl, isx, _, rfl, ?_⟩
          cases e : wholeB x 0 1000000000 with
          | false => exact iteT ⟨_, rfl, mkO_of2 ((k1 (i : Nat) "label" (due_word both c60 hb (word_label hx e) hi)).mono SA)⟩
          | true =>
            obtain ⟨b, rfl, _, _⟩ := whole_int e
            refine iteF ⟨_, rfl, _, _, rfl, rfl, _, rfl, ?_⟩
            cases i with
            | zero =>
              refine ifD (fun c => absurd c (by decide)) (fun _ => ?_)
              have o : ordB gs 0 = false := ord_zero
              refine ⟨_, rfl, _, rfl, pr, rs, rfl, .inl (SqL.of er4), _, _, rfl, rfl, _, rfl, ?_⟩
              refine ifD (fun c => ⟨_, rfl, mkO_of2 ((k1 ((0 : Nat) : Int) "row" (due_word both c60 hb (word_norow hx e o (List.getElem?_eq_none_iff.mpr (by omega))) hi)).mono SA)⟩) (fun c => ?_)
              obtain ⟨z, hz⟩ : ∃ z, rs[0]? = some z := ⟨rs[0]'(by omega), List.getElem?_eq_getElem (by omega)⟩
              obtain ⟨sz, esz, isz, knz⟩ := (hs.keep SA).at_ hz
              refine ⟨_, rfl, _, rfl, _, rfl, _, rfl, _, _, _, _, rfl, rfl, SqL.of er4, at_of (j := 0) (v := z) rfl hz, _, rfl, t, ns, 0, 0, z, sz, rfl, hT.keep SA, isz, knz, fun u hu => (k1 ((0 : Nat) : Int) u (due_word both c60 hb ((word_row hx e o esz).trans hu) hi)).mono SA, fun hn H5 S5 => ⟨_, _, rfl, S4.trans S5, fun a ha => ?_⟩⟩
              rcases Nat.lt_or_ge a (0) with ha2 | ha2
              · exact hb a ha2
              · obtain rfl : a = 0 := by omega
                rw [word_row hx e o esz]
                exact hn
            | succ i =>
              refine ifD (fun _ => ?_) (fun c => absurd (show (0 : Int) < ((i + 1 : Nat) : Int) by omega) c)
              obtain ⟨y, hy⟩ : ∃ y, gs[i]? = some y := ⟨gs[i], List.getElem?_eq_getElem (by omega)⟩
              have wi : wholeB y 0 1000000000 = true := by
                cases ey : wholeB y 0 1000000000 with
                | true => rfl
                | false =>
                  have := hb i (by omega)
                  rw [word_label hy ey] at this
                  cases this
              obtain ⟨a, rfl, _, _⟩ := whole_int wi
              have oo := ord_ints hy hx
              refine ⟨_, rfl, _, rfl, _, rfl, _, _, rfl, rfl, _, _, _, _, rfl, rfl, SqT.of eg4, at_of (j := i) (v := .int a) (by omega) hy, _, _, rfl, rfl, _, rfl, ?_⟩
              refine ifD (fun c => ⟨_, rfl, mkO_of2 ((k1 ((i + 1 : Nat) : Int) "order" (due_word both c60 hb (word_order hx e (oo.trans (decide_eq_true c))) hi)).mono SA)⟩) (fun c => ?_)
              have o : ordB gs (i + 1) = false := by
                rw [oo]
                exact decide_eq_false c
              refine ⟨_, rfl, _, rfl, pr, rs, rfl, .inl (SqL.of er4), _, _, rfl, rfl, _, rfl, ?_⟩
              refine ifD (fun c => ⟨_, rfl, mkO_of2 ((k1 (((i + 1) : Nat) : Int) "row" (due_word both c60 hb (word_norow hx e o (List.getElem?_eq_none_iff.mpr (by omega))) hi)).mono SA)⟩) (fun c => ?_)
              obtain ⟨z, hz⟩ : ∃ z, rs[(i + 1)]? = some z := ⟨rs[(i + 1)]'(by omega), List.getElem?_eq_getElem (by omega)⟩
              obtain ⟨sz, esz, isz, knz⟩ := (hs.keep SA).at_ hz
              refine ⟨_, rfl, _, rfl, _, rfl, _, rfl, _, _, _, _, rfl, rfl, SqL.of er4, at_of (j := (i + 1)) (v := z) rfl hz, _, rfl, t, ns, (i + 1), (i + 1), z, sz, rfl, hT.keep SA, isz, knz, fun u hu => (k1 (((i + 1) : Nat) : Int) u (due_word both c60 hb ((word_row hx e o esz).trans hu) hi)).mono SA, fun hn H5 S5 => ⟨_, _, rfl, S4.trans S5, fun a ha => ?_⟩⟩
              rcases Nat.lt_or_ge a ((i + 1)) with ha2 | ha2
              · exact hb a ha2
              · obtain rfl : a = (i + 1) := by omega
                rw [word_row hx e o esz]
                exact hn
        · rintro σ H' ⟨v3, v4, rfl, S3, hb⟩
          have eg3 := S3 _ _ eg
          have er3 := S3 _ _ er
          refine ⟨_, rfl, pr, rs, rfl, .inl (SqL.of er3), _, rfl, pg, gs, rfl, .inr (SqT.of eg3), _, _, rfl, rfl, _, rfl, ?_⟩
          refine ifD (fun c => ⟨_, rfl, pg, gs, rfl, .inr (SqT.of eg3), mkO_of2 ((k1 _ "rows" (due_rows both c60 hb (by show gs.length < rs.length; omega))).mono (S2.trans S3))⟩) (fun c => ?_)
          exact k2 (due_ok both c60 hb (by show ¬ gs.length < rs.length; omega)) _ (S2.trans S3)
      | tup rs =>
        obtain ⟨pg, rfl, hp⟩ := hg
        obtain ⟨pr, rfl, hq⟩ := hrr
        have both : (((Sh.tup gs).isL || (Sh.tup gs).isT) && ((Sh.tup rs).isL || (Sh.tup rs).isT)) = true := rfl
        refine ⟨_, (pss_cons 
    (ps_if (PW.pt (pw_or (pt_not (pt_val (pcal GS hr pass0 (pa_cons (pv 1) pa_nil)))) (pw_or1 (pt_not (pt_val (pcal GS hr pass0 (pa_cons (pv 2) pa_nil))))))) (pss_one (ps_raise rfl (takes_of rfl rfl rfl rfl) (pmk_oex GB.o GB.i GB.t GB.F hr2 GB.b .nil pass0 rfl GB.m (pa_cons pe_int (pa_cons pe_str pa_nil))))) pss_nil) (pss_cons 
    (ps_if (pt_cmpR op_gt (pe_callB call_len_seq (by rfl) nl PySem.boot_len (pa_cons (pv 1) pa_nil)) (pe_glob (v := .int 60) rfl mG ⟨_, rfl⟩) (nomark _)) (pss_one (ps_raise rfl (takes_of rfl rfl rfl rfl) (pmk_oex GB.o GB.i GB.t GB.F hr2 GB.b .nil pass0 rfl GB.m (pa_cons (pe_glob (v := .int 60) rfl mG ⟨_, rfl⟩) (pa_cons pe_str pa_nil))))) pss_nil) (pss_cons 
    (ps_for (passes_of rfl) rfl (pi_enumT (by rfl) ne (pa_cons (pv 1) pa_nil)) (pg_tup (by rfl) (pgs_cons (pg_name (i := 3) sc_check_company.nd rfl (Or.inl rfl)) (pgs_cons (pg_name (i := 4) sc_check_company.nd rfl (Or.inl rfl)) pgs_nil))) (pss_cons 
      (ps_if (pt_not (pt_val (pcal GL hr pass0 (pa_cons (pv 4) pa_nil)))) (pss_one (ps_raise rfl (takes_of rfl rfl rfl rfl) (pmk_oex GB.o GB.i GB.t GB.F hr2 GB.b .nil pass0 rfl GB.m (pa_cons (pv 3) (pa_cons pe_str pa_nil))))) pss_nil) (pss_cons 
      (ps_if (PW.pt (pw_and (pt_cmpR op_gt (pv 3) pe_int (nomark _)) (pw_and1 (pt_cmpR op_le (pv 4) (pe_ix ix_tup (pv 1) (pe_op op_sub (pv 3) pe_int) (fun _ _ => rfl)) (nomark _))))) (pss_one (ps_raise rfl (takes_of rfl rfl rfl rfl) (pmk_oex GB.o GB.i GB.t GB.F hr2 GB.b .nil pass0 rfl GB.m (pa_cons (pv 3) (pa_cons pe_str pa_nil))))) pss_nil) (pss_cons 
      (ps_if (pt_cmpR op_ge (pv 3) (pe_callB call_len_seq (by rfl) nl PySem.boot_len (pa_cons (pv 2) pa_nil)) (nomark _)) (pss_one (ps_raise rfl (takes_of rfl rfl rfl rfl) (pmk_oex GB.o GB.i GB.t GB.F hr2 GB.b .nil pass0 rfl GB.m (pa_cons (pv 3) (pa_cons pe_str pa_nil))))) pss_nil) (pss_one 
      (ps_expr (pcal GR hr (passes_call (takes_of rfl rfl rfl rfl) (fun _ _ _ _ h => h)) (pa_cons (pv 0) (pa_cons (pv 3) (pa_cons (pe_ix ix_tup (pv 2) (pv 3) (fun _ _ => rfl)) (pa_cons (pv 3) pa_nil))))))))))) (pss_one 
    (ps_if (pt_cmpR op_gt (pe_callB call_len_seq (by rfl) nl PySem.boot_len (pa_cons (pv 2) pa_nil)) (pe_callB call_len_seq (by rfl) nl PySem.boot_len (pa_cons (pv 1) pa_nil)) (nomark _)) (pss_one (ps_raise rfl (takes_of rfl rfl rfl rfl) (pmk_oex GB.o GB.i GB.t GB.F hr2 GB.b .nil pass0 rfl GB.m (pa_cons (pe_callB call_len_seq (by rfl) nl PySem.boot_len (pa_cons (pv 1) pa_nil)) (pa_cons pe_str pa_nil))))) pss_nil))))), ?_⟩
        refine ⟨_, rfl, _, Sh.tup gs, rfl, ⟨pg, rfl, hp⟩, fun H1 S1 => ⟨_, rfl, iteF ⟨_, rfl, _, Sh.tup rs, rfl, ⟨pr, rfl, S1 _ _ hq⟩, fun H2 S2' => ⟨_, rfl, iteF ?_⟩⟩⟩⟩
        have S2 := S1.trans S2'
        have eg := S2 _ _ hp
        have er := S2 _ _ hq
        refine ⟨_, rfl, pg, gs, rfl, .inr (SqT.of eg), _, _, rfl, rfl, _, rfl, ?_⟩
        refine ifD (fun c => mkO_of2 ((k1 60 "many" (due_many both (by show 60 < gs.length; omega))).mono S2)) (fun c => ?_)
        have c60 : gs.length ≤ 60 := by omega
        have rl : rs.length = ss.length := hs.len
        refine ⟨_, rfl, pg, gs, rfl, SqT.of eg, for_enumT (K := K) (a := pg) (xs := gs) (fun i σ H' => ∃ v3 v4 : Option V, σ = [some (.ref t), some (.ref pg), some (.ref pr), v3, v4] ∧ Same H2 H' ∧ ∀ a, a < i → wordC ns.length gs ss a = none)
          ⟨none, none, rfl, Same.refl _, fun a ha => absurd ha (Nat.not_lt_zero a)⟩ (fun i σ H' _ ⟨_, _, _, S, _⟩ => SqT.of (S _ _ eg)) ?_ ?_⟩
        · rintro i x σ H' T hx ⟨v3, v4, rfl, S3, hb⟩ hT0
          have hi : i < gs.length := (List.getElem?_eq_some_iff.mp hx).1
          have S4 : Same H2 (upd H' T (.tup [.int (i : Nat), x])) := S3.trans (new_same hT0)
          refine ⟨T, _, rfl, SqT.of upd_same, rfl, _, _, rfl, _, _, rfl, rfl, ?_⟩
          generalize upd H' T (.tup [.int (i : Nat), x]) = H4 at S4
          have eg4 := S4 _ _ eg
          have er4 := S4 _ _ er
          have SA := S2.trans S4
          obtain ⟨sx, isx⟩ := (kg.keep SA) x (List.mem_of_getElem? hx)
          refine ⟨_, rfl, x, sx, rfl, isx, _, rfl, ?_⟩
          cases e : wholeB x 0 1000000000 with
          | false => exact iteT ⟨_, rfl, mkO_of2 ((k1 (i : Nat) "label" (due_word both c60 hb (word_label hx e) hi)).mono SA)⟩
          | true =>
            obtain ⟨b, rfl, _, _⟩ := whole_int e
            refine iteF ⟨_, rfl, _, _, rfl, rfl, _, rfl, ?_⟩
            cases i with
            | zero =>
              refine ifD (fun c => absurd c (by decide)) (fun _ => ?_)
              have o : ordB gs 0 = false := ord_zero
              refine ⟨_, rfl, _, rfl, pr, rs, rfl, .inr (SqT.of er4), _, _, rfl, rfl, _, rfl, ?_⟩
              refine ifD (fun c => ⟨_, rfl, mkO_of2 ((k1 ((0 : Nat) : Int) "row" (due_word both c60 hb (word_norow hx e o (List.getElem?_eq_none_iff.mpr (by omega))) hi)).mono SA)⟩) (fun c => ?_)
              obtain ⟨z, hz⟩ : ∃ z, rs[0]? = some z := ⟨rs[0]'(by omega), List.getElem?_eq_getElem (by omega)⟩
              obtain ⟨sz, esz, isz, knz⟩ := (hs.keep SA).at_ hz
              refine ⟨_, rfl, _, rfl, _, rfl, _, rfl, _, _, _, _, rfl, rfl, SqT.of er4, at_of (j := 0) (v := z) rfl hz, _, rfl, t, ns, 0, 0, z, sz, rfl, hT.keep SA, isz, knz, fun u hu => (k1 ((0 : Nat) : Int) u (due_word both c60 hb ((word_row hx e o esz).trans hu) hi)).mono SA, fun hn H5 S5 => ⟨_, _, rfl, S4.trans S5, fun a ha => ?_⟩⟩
              rcases Nat.lt_or_ge a (0) with ha2 | ha2
              · exact hb a ha2
              · obtain rfl : a = 0 := by omega
                rw [word_row hx e o esz]
                exact hn
            | succ i =>
              refine ifD (fun _ => ?_) (fun c => absurd (show (0 : Int) < ((i + 1 : Nat) : Int) by omega) c)
              obtain ⟨y, hy⟩ : ∃ y, gs[i]? = some y := ⟨gs[i], List.getElem?_eq_getElem (by omega)⟩
              have wi : wholeB y 0 1000000000 = true := by
                cases ey : wholeB y 0 1000000000 with
                | true => rfl
                | false =>
                  have := hb i (by omega)
                  rw [word_label hy ey] at this
                  cases this
              obtain ⟨a, rfl, _, _⟩ := whole_int wi
              have oo := ord_ints hy hx
              refine ⟨_, rfl, _, rfl, _, rfl, _, _, rfl, rfl, _, _, _, _, rfl, rfl, SqT.of eg4, at_of (j := i) (v := .int a) (by omega) hy, _, _, rfl, rfl, _, rfl, ?_⟩
              refine ifD (fun c => ⟨_, rfl, mkO_of2 ((k1 ((i + 1 : Nat) : Int) "order" (due_word both c60 hb (word_order hx e (oo.trans (decide_eq_true c))) hi)).mono SA)⟩) (fun c => ?_)
              have o : ordB gs (i + 1) = false := by
                rw [oo]
                exact decide_eq_false c
              refine ⟨_, rfl, _, rfl, pr, rs, rfl, .inr (SqT.of er4), _, _, rfl, rfl, _, rfl, ?_⟩
              refine ifD (fun c => ⟨_, rfl, mkO_of2 ((k1 (((i + 1) : Nat) : Int) "row" (due_word both c60 hb (word_norow hx e o (List.getElem?_eq_none_iff.mpr (by omega))) hi)).mono SA)⟩) (fun c => ?_)
              obtain ⟨z, hz⟩ : ∃ z, rs[(i + 1)]? = some z := ⟨rs[(i + 1)]'(by omega), List.getElem?_eq_getElem (by omega)⟩
              obtain ⟨sz, esz, isz, knz⟩ := (hs.keep SA).at_ hz
              refine ⟨_, rfl, _, rfl, _, rfl, _, rfl, _, _, _, _, rfl, rfl, SqT.of er4, at_of (j := (i + 1)) (v := z) rfl hz, _, rfl, t, ns, (i + 1), (i + 1), z, sz, rfl, hT.keep SA, isz, knz, fun u hu => (k1 (((i + 1) : Nat) : Int) u (due_word both c60 hb ((word_row hx e o esz).trans hu) hi)).mono SA, fun hn H5 S5 => ⟨_, _, rfl, S4.trans S5, fun a ha => ?_⟩⟩
              rcases Nat.lt_or_ge a ((i + 1)) with ha2 | ha2
              · exact hb a ha2
              · obtain rfl : a = (i + 1) := by omega
                rw [word_row hx e o esz]
                exact hn
        · rintro σ H' ⟨v3, v4, rfl, S3, hb⟩
          have eg3 := S3 _ _ eg
          have er3 := S3 _ _ er
          refine ⟨_, rfl, pr, rs, rfl, .inr (SqT.of er3), _, rfl, pg, gs, rfl, .inr (SqT.of eg3), _, _, rfl, rfl, _, rfl, ?_⟩
          refine ifD (fun c => ⟨_, rfl, pg, gs, rfl, .inr (SqT.of eg3), mkO_of2 ((k1 _ "rows" (due_rows both c60 hb (by show gs.length < rs.length; omega))).mono (S2.trans S3))⟩) (fun c => ?_)
          exact k2 (due_ok both c60 hb (by show ¬ gs.length < rs.length; omega)) _ (S2.trans S3)
end
end J

set_option Elab.async false
set_option linter.all false
set_option maxRecDepth 100000
set_option maxHeartbeats 4000000
namespace J
open PySem PySem.Spec PyProof.Rows L2
abbrev rTup (K : PySem.W.Frag) : List V → Hp → VK → Prop := fun xs H Q => ∃ p ys, xs = [.ref p] ∧ ((SqL K H p ys ∧ ∀ l, H l = none → Q (.ref l) (upd H l (.tup ys))) ∨ (SqT K H p ys ∧ Q (.ref p) H))
abbrev rLen (K : PySem.W.Frag) : List V → Hp → VK → Prop := fun xs H Q => ∃ p ys, xs = [.ref p] ∧ (SqL K H p ys ∨ SqT K H p ys) ∧ Q (.int (ys.length : Nat)) H
/-! ### the table -/
/-- k lists of n things each at T, new -/
def Grid (H0 H : Hp) (T : Addr) (n k : Nat) : Prop := Same H0 H ∧ H0 T = none ∧ ∃ gs : List Addr, gs.length = k ∧ H T = some (.lst (gs.map V.ref)) ∧ ∀ g ∈ gs, H0 g = none ∧ g ≠ T ∧ ∃ xs, H g = some (.lst xs) ∧ xs.length = n
theorem Grid.new {H0 H : Hp} {T z : Addr} {n k : Nat} {o : HO} (g : Grid H0 H T n k) (hz : H z = none) : Grid H0 (upd H z o) T n k := by
  obtain ⟨S, t0, gs, e, hT, hg⟩ := g
  refine ⟨S.trans (new_same hz), t0, gs, e, by rw [upd_ne (ne_of_none hT hz)]; exact hT, fun a ha => ?_⟩
  obtain ⟨a0, aT, xs, ea, el⟩ := hg a ha
  exact ⟨a0, aT, xs, by rw [upd_ne (ne_of_none ea hz)]; exact ea, el⟩
theorem Grid.at_ {H0 H : Hp} {T : Addr} {n k j : Nat} (g : Grid H0 H T n k) (hj : j < k) : ∃ (a : Addr) (xs L : List V), H T = some (.lst L) ∧ L[j]? = some (.ref a) ∧ H a = some (.lst xs) ∧ xs.length = n ∧ ∀ ys : List V, ys.length = n → Grid H0 (upd H a (.lst ys)) T n k := by
  obtain ⟨S, t0, gs, e, hT, hg⟩ := g
  have hj' : j < gs.length := by omega
  obtain ⟨a0, aT, xs, ea, el⟩ := hg gs[j] (List.getElem_mem hj')
  refine ⟨gs[j], xs, _, hT, by rw [List.getElem?_map, List.getElem?_eq_getElem hj']; rfl, ea, el, fun ys hy => ⟨fun b o eb => ?_, t0, gs, e, by rw [upd_ne aT.symm]; exact hT, fun c hc => ?_⟩⟩
  · rw [upd_ne (ne_of_none eb a0)]
    exact S _ _ eb
  · obtain ⟨c0, cT, zs, ec, cl⟩ := hg c hc
    by_cases q : c = gs[j]
    · exact ⟨c0, cT, ys, by rw [q, upd_same], hy⟩
    · exact ⟨c0, cT, zs, by rw [upd_ne q]; exact ec, cl⟩
theorem Grid.ne_new {H0 H : Hp} {T z : Addr} {n k : Nat} (g : Grid H0 H T n k) (hz : H z = none) : z ≠ T := by
  obtain ⟨_, _, gs, _, hT, _⟩ := g
  exact (ne_of_none hT hz).symm
theorem Grid.push {H0 H : Hp} {T z : Addr} {n k : Nat} {ys : List V} (g : Grid H0 H T n k) (hz : H z = some (.lst ys)) (hl : ys.length = n) (z0 : H0 z = none) (zT : z ≠ T) : ∃ acc : List V, H T = some (.lst acc) ∧ acc.length = k ∧ Grid H0 (upd H T (.lst (acc ++ [.ref z]))) T n (k + 1) := by
  obtain ⟨S, t0, gs, e, hT, hg⟩ := g
  refine ⟨_, hT, by rw [List.length_map]; exact e, fun b o eb => ?_, t0, gs ++ [z], by rw [List.length_append, e]; rfl, by rw [upd_same, List.map_append]; rfl, fun a ha => ?_⟩
  · rw [upd_ne (ne_of_none eb t0)]
    exact S _ _ eb
  · rcases List.mem_append.mp ha with q | q
    · obtain ⟨a0, aT, xs, ea, el⟩ := hg a q
      exact ⟨a0, aT, xs, by rw [upd_ne aT]; exact ea, el⟩
    · rw [List.mem_singleton] at q
      subst q
      exact ⟨z0, zT, ys, by rw [upd_ne zT]; exact hz, hl⟩
theorem ixN_in {n j : Nat} (hj : j < n) : ixN n (j : Int) = some j := by
  unfold ixN
  rw [if_pos (by omega), if_pos (by omega)]
  rfl
abbrev s_table_of : Stmt := top 17
theorem sc_table_of : FnScope ["ties", "rows", "table", "j", "row", "i", "tie", "_", "line"] ["ties", "rows"] (defScope s_table_of) := ⟨rfl, rfl, rfl, by decide +kernel, rfl, by decide +kernel, by decide +kernel⟩
/-- at p the rows of ties: tuples, each as long as its place -/
def RowsAt (H : Hp) (p : Addr) (m : Nat) (ps : List Addr) : Prop := H p = some (.tup (ps.map V.ref)) ∧ ∀ (j : Nat) (a : Addr), ps[j]? = some a → ∃ ts : List Int, H a = some (.tup (ts.map V.int)) ∧ ts.length = j ∧ ∀ t ∈ ts, 0 ≤ t ∧ t < (m : Nat)
theorem RowsAt.keep {H H' : Hp} {p : Addr} {m : Nat} {ps : List Addr} (h : RowsAt H p m ps) (S : Same H H') : RowsAt H' p m ps :=
  ⟨S _ _ h.1, fun j a e => by obtain ⟨ts, x, y⟩ := h.2 j a e; exact ⟨ts, S _ _ x, y⟩⟩
def spTable (C : Addr) : Sp := fun vs H Q _ => ∃ (t p : Addr) (ns : List Int) (ps : List Addr), vs = [.ref t, .ref p] ∧ TiesAt C H t ns ∧ RowsAt H p ns.length ps ∧ ps.length ≤ 60 ∧ ∀ (H' : Hp) (z : Addr) (zs : List V), Same H H' → H z = none → H' z = some (.tup zs) → Q (.ref z) H'
section
variable {P : Program} {w : World} {K : PySem.W.Frag} {mg : Str → Option Value} {base : Heap}
theorem ok_table_of {f C : Addr} {fd : FuncData} (F : Fun K "_table_of" "_table_of" s_table_of f fd) (TC : TiC K C) (nl : mg "len" = none) (nt : mg "tuple" = none) (ne : mg "enumerate" = none) : FnOk P w K mg base CX0 1 f fd ["ties", "rows"] (spTable C) := by
  refine F.ok sc_table_of (fun vs H Q E h => ?_) (fun cdv A outer s H vs Q E hr h => ?_)
  · obtain ⟨t, p, ns, ps, rfl, _⟩ := h
    rfl
  · obtain ⟨t, p, ns, ps, rfl, hT, hR, h60, k⟩ := h
    refine ⟨_, (C8.pss_cut 
  (ps_setLc (i := 2) (own := [("_", 7)]) (g := gName 7) rfl sc_table_of.nd rfl rfl (sw_true rfl rfl rfl (by decide +kernel)) (pi_tup (pv 1)) (blkOk_by (own := [("_", 7)]) (N := ["ties", "rows", "table", "j", "row", "i", "tie", "_", "line"]) (sc := defScope s_table_of) (by decide +kernel)) (fun _ _ _ _ _ => pg_name (i := 7) sc_table_of.nd rfl (Or.inl rfl)) (fun _ _ _ _ _ => pts_nil) (fun _ _ _ _ _ => (pe_op op_rep (pe_lst (pa_cons pe_non pa_nil)) (pe_callB (id := "len") (r := rLen K) call_len_seq (by rfl) nl PySem.boot_len (pa_cons (pv 1) pa_nil))))) (pss_cons 
  (ps_for PassesOwn.never rfl (pi_enumT (by rfl) ne (pa_cons (pv 1) pa_nil)) (pg_tup (by rfl) (pgs_cons (pg_name (i := 3) sc_table_of.nd rfl (Or.inl rfl)) (pgs_cons (pg_name (i := 4) sc_table_of.nd rfl (Or.inl rfl)) pgs_nil))) (pss_one 
    (ps_for PassesOwn.never rfl (pi_enumT (by rfl) ne (pa_cons (pv 4) pa_nil)) (pg_tup (by rfl) (pgs_cons (pg_name (i := 5) sc_table_of.nd rfl (Or.inl rfl)) (pgs_cons (pg_name (i := 6) sc_table_of.nd rfl (Or.inl rfl)) pgs_nil))) (pss_cons 
      (ps_asg (pv 6) (pg_sub (pe_ix ix_list (pv 2) (pv 3) (fun _ _ => rfl)) (pv 5) set_list)) (pss_one 
      (ps_asg (pe_ix ix_tup (pe_fld (pv 0) rfl) (pv 6) (fun _ _ => rfl)) (pg_sub (pe_ix ix_list (pv 2) (pv 5) (fun _ _ => rfl)) (pv 3) set_list))))))) (pss_one 
  (ps_ret (pe_callTy call_tuple_of (by rfl) nt (by decide +kernel) (pa_cons (pe_lc (own := [("line", 8)]) (g := gName 8) (by rfl) sc_table_of.nd (pi_list (pv 2)) (blkOk_by (own := [("line", 8)]) (N := ["ties", "rows", "table", "j", "row", "i", "tie", "_", "line"]) (sc := defScope s_table_of) (by decide +kernel)) (fun _ _ _ _ _ => pg_name (i := 8) sc_table_of.nd rfl (Or.inl rfl)) (fun _ _ _ _ _ => pts_nil) (fun _ _ _ _ _ => (pe_callTy (T := "tuple") (r := rTup K) call_tuple_of (by rfl) nt (by decide +kernel) (pa_cons (pv 8) pa_nil)))) pa_nil)))))), ?_⟩
    refine ⟨fun σ' H' => ∃ (T : Addr) (v3 v4 v5 v6 : Option V), σ' = [some (.ref t), some (.ref p), some (.ref T), v3, v4, v5, v6, none, none] ∧ Grid H H' T ps.length ps.length, ?_, ?_⟩
    · refine ⟨_, rfl, p, rfl, ⟨_, SqT.of hR.1⟩, fun D hD => ?_⟩
      refine lc_tup (K := K) (a := p) (xs := ps.map V.ref) (fun i H1 => Grid H H1 D ps.length i) ⟨new_same hD, hD, [], rfl, upd_same, fun a ha => nomatch ha⟩ (fun i H1 _ g => SqT.of (g.1 _ _ hR.1)) ?_ ?_
      · rintro i x H1 hx g
        refine ⟨rfl, yesT ?_⟩
        have hi : i < ps.length := by
          have q := (List.getElem?_eq_some_iff.mp hx).1
          rw [List.length_map] at q
          exact q
        refine ⟨(by show 1 ≤ sizeLine; decide), fun q hq => ⟨_, rfl, p, _, rfl, .inr (SqT.of ((new_same hq) _ _ (g.1 _ _ hR.1))), q, _, [.non], rfl, rfl, upd_same, by omega, by rw [List.length_map]; omega, ?_, fun z hz => ?_⟩⟩
        · rw [List.length_map]
          show 1 * ps.length ≤ 16777216
          omega
        · have g1 := g.new (o := .lst [.non]) hq
          have g2 := g1.new (o := .lst (List.replicate (((ps.map V.ref).length : Nat) : Int).toNat [V.non]).flatten) hz
          have zq : z ≠ q := fun e => by rw [e, upd_same] at hz; cases hz
          have hz1 : H1 z = none := by rw [upd_ne zq] at hz; exact hz
          obtain ⟨acc, ea, el, gg⟩ := g2.push (z := z) upd_same (by rw [List.length_map]; simp) (Same.free g.1 hz1) (g.ne_new hz1)
          exact ⟨acc, ea, by rw [el]; show i < 16777216; omega, gg⟩
      · rintro H1 g
        rw [List.length_map] at g
        exact ⟨D, _, _, _, _, rfl, g⟩
    · rintro σ' H' ⟨T, v3, v4, v5, v6, rfl, g⟩
      obtain ⟨dx, tb, hx, htb⟩ := id hT
      refine ⟨_, rfl, p, _, rfl, SqT.of (g.1 _ _ hR.1), for_enumT (K := K) (a := p) (xs := ps.map V.ref) (fun i σ H1 => ∃ v3 v4 v5 v6 : Option V, σ = [some (.ref t), some (.ref p), some (.ref T), v3, v4, v5, v6, none, none] ∧ Grid H H1 T ps.length ps.length)
        ⟨v3, v4, v5, v6, rfl, g⟩ (fun i σ H1 _ ⟨_, _, _, _, _, g1⟩ => SqT.of (g1.1 _ _ hR.1)) ?_ ?_⟩
      · rintro j x σ H1 Z hxj ⟨v3, v4, v5, v6, rfl, g1⟩ hZ
        have hj : j < ps.length := by
          have q := (List.getElem?_eq_some_iff.mp hxj).1
          rw [List.length_map] at q
          exact q
        obtain ⟨a, ha, rfl⟩ : ∃ a, ps[j]? = some a ∧ x = V.ref a := by
          rw [List.getElem?_map, List.getElem?_eq_getElem hj] at hxj
          exact ⟨ps[j], List.getElem?_eq_getElem hj, (Option.some.inj hxj).symm⟩
        obtain ⟨ts, hts, tl, tr⟩ := hR.2 j a ha
        refine ⟨Z, _, rfl, SqT.of upd_same, rfl, _, _, rfl, _, _, rfl, rfl, ?_⟩
        have g2 := g1.new (o := .tup [.int (j : Nat), .ref a]) hZ
        generalize upd H1 Z (.tup [.int (j : Nat), .ref a]) = H2 at g2
        refine ⟨_, rfl, a, _, rfl, SqT.of (g2.1 _ _ hts), for_enumT (K := K) (a := a) (xs := ts.map V.int) (fun i σ H1 => ∃ v5 v6 : Option V, σ = [some (.ref t), some (.ref p), some (.ref T), some (.int (j : Nat)), some (.ref a), v5, v6, none, none] ∧ Grid H H1 T ps.length ps.length)
          ⟨_, _, rfl, g2⟩ (fun i σ H1 _ ⟨_, _, _, g1⟩ => SqT.of (g1.1 _ _ hts)) ?_ ?_⟩
        · rintro i y σ H3 Z2 hyi ⟨v5, v6, rfl, g3⟩ hZ2
          have hi : i < ts.length := by
            have q := (List.getElem?_eq_some_iff.mp hyi).1
            rw [List.length_map] at q
            exact q
          obtain ⟨c, hc, rfl⟩ : ∃ c, c ∈ ts ∧ y = V.int c := by
            rw [List.getElem?_map, List.getElem?_eq_getElem hi] at hyi
            exact ⟨ts[i], List.getElem_mem hi, (Option.some.inj hyi).symm⟩
          obtain ⟨c0, c1⟩ := tr c hc
          refine ⟨Z2, _, rfl, SqT.of upd_same, rfl, _, _, rfl, _, _, rfl, rfl, ?_⟩
          have g4 := g3.new (o := .tup [.int (i : Nat), .int c]) hZ2
          generalize upd H3 Z2 (.tup [.int (i : Nat), .int c]) = H4 at g4
          obtain ⟨b1, xs1, L1, e1, e2, e3, e4, e5⟩ := g4.at_ hj
          have g5 := e5 (xs1.set i (.int c)) (by rw [List.length_set]; exact e4)
          refine ⟨_, rfl, _, rfl, _, rfl, _, _, _, _, rfl, rfl, SqL.of e1, at_of (j := j) rfl e2, _, rfl, b1, xs1, _, i, rfl, rfl, e3, by rw [e4]; exact ixN_in (by omega), ?_⟩
          generalize upd H4 b1 (.lst (xs1.set i (.int c))) = H5 at g5
          have hx5 := g5.1 _ _ hx
          have ht5 := g5.1 _ _ htb
          obtain ⟨b2, xs2, L2, f1, f2, f3, f4, f5⟩ := g5.at_ (j := i) (by omega)
          have hcn : (ns.map V.int)[c.toNat]? = some (V.int (ns[c.toNat]'(by omega))) := by
            rw [List.getElem?_map, List.getElem?_eq_getElem (by omega)]
            rfl
          refine ⟨_, rfl, t, C, dx, _, _, rfl, hx5, TC.cl, TC.nB, tf_backs _ _, _, rfl, _, _, _, _, rfl, rfl, SqT.of ht5, at_of (j := c.toNat) (by omega) hcn, ?_⟩
          refine ⟨_, rfl, _, rfl, _, _, _, _, rfl, rfl, SqL.of f1, at_of (j := i) rfl f2, _, rfl, b2, xs2, _, j, rfl, rfl, f3, by rw [f4]; exact ixN_in (by omega), ?_⟩
          exact ⟨_, _, rfl, f5 _ (by rw [List.length_set]; exact f4)⟩
        · rintro σ H3 ⟨v5, v6, rfl, g3⟩
          exact ⟨_, _, _, _, rfl, g3⟩
      · rintro σ H1 ⟨v3, v4, v5, v6, rfl, ⟨S1, t0, gs, el, eT, hg⟩⟩
        refine ⟨_, rfl, T, rfl, ⟨_, SqL.of eT⟩, fun D hD => ?_⟩
        refine lc_list (K := K) (a := T) (xs := gs.map V.ref) (fun i H2 => Same H1 H2 ∧ H1 D = none ∧ ∃ acc : List V, acc.length = i ∧ H2 D = some (.lst acc)) ⟨new_same hD, hD, [], rfl, upd_same⟩ (fun i H2 _ ⟨S2, _⟩ => SqL.of (S2 _ _ eT)) ?_ ?_
        · rintro i x H2 hxi ⟨S2, D0, acc, al, ea⟩
          have hi : i < gs.length := by
            have q := (List.getElem?_eq_some_iff.mp hxi).1
            rw [List.length_map] at q
            exact q
          obtain ⟨b, hb, rfl⟩ : ∃ b, b ∈ gs ∧ x = V.ref b := by
            rw [List.getElem?_map, List.getElem?_eq_getElem hi] at hxi
            exact ⟨gs[i], List.getElem_mem hi, (Option.some.inj hxi).symm⟩
          obtain ⟨_, _, xs, eb, _⟩ := hg b hb
          refine ⟨rfl, yesT ?_⟩
          refine ⟨_, rfl, b, xs, rfl, .inl ⟨SqL.of (S2 _ _ eb), fun z hz => ?_⟩⟩
          have nz : D ≠ z := ne_of_none ea hz
          refine ⟨acc, by rw [upd_ne nz]; exact ea, by show acc.length < 16777216; omega, fun c o ec => ?_, D0, _, by rw [List.length_append, al]; rfl, upd_same⟩
          rw [upd_ne (ne_of_none ec D0), upd_ne (ne_of_none (S2 _ _ ec) hz)]
          exact S2 _ _ ec
        · rintro H2 ⟨S2, D0, acc, al, ea⟩
          refine ⟨D, acc, rfl, .inl ⟨SqL.of ea, fun z hz => ?_⟩⟩
          exact k _ z acc ((S1.trans S2).trans (new_same hz)) (Same.free (S1.trans S2) hz) upd_same
end
end J

set_option Elab.async false
set_option linter.all false
set_option maxRecDepth 100000
set_option maxHeartbeats 4000000
namespace J
open PySem PySem.Spec PyProof.Rows L2
/-! ### a company is made -/
theorem dc_enumT {K : PySem.W.Frag} {a : Addr} {xs : List V} {g : TG} {tt : TT} {tk tv : TE} {vs : List Nat} {σ : L2.St} {H1 : Hp} {D : Addr} {Qd : Hp → Prop} (Pv : Nat → Hp → Prop) (h0 : Pv 0 (upd H1 D (.dK []))) (hl : ∀ i H, i ≤ xs.length → Pv i H → SqT K H a xs)
    (hs : ∀ i x H T, xs[i]? = some x → Pv i H → H T = none → g (.ref T) (wipe σ vs) (upd H T (.tup [.int (i : Nat), x])) fun σ2 H2 => wipe σ2 vs = wipe σ vs ∧ tt σ2 H2 fun b H3 =>
      if b = true then tk σ2 H3 fun y H4 => tv σ2 H4 fun z H5 => ∃ kvs k, y = kV k ∧ H5 D = some (.dK kvs) ∧ kvs.length < sizeLine ∧ Pv (i + 1) (upd H5 D (.dK (putK kvs k z))) else Pv (i + 1) H3) (hd : ∀ H, Pv xs.length H → Qd H) :
    ∃ W : Nat → Nat → Hp → Prop, (∃ m, W 0 m (upd H1 D (.dK []))) ∧ ∀ i m H, W i m H →
      ((Itet K a).stop i H ∧ Qd H) ∨ ((Itet K a).go i H ∧ ∃ Nx : Hp → Prop, (∀ H', Nx H' → ∃ m', m' < m ∧ W (i + 1) m' H') ∧ ∀ x H', (Itet K a).yld i H x H' → g x (wipe σ vs) H' fun σ2 H2 => wipe σ2 vs = wipe σ vs ∧ tt σ2 H2 fun b H3 =>
        if b = true then tk σ2 H3 fun y H4 => tv σ2 H4 fun z H5 => ∃ kvs k, y = kV k ∧ H5 D = some (.dK kvs) ∧ kvs.length < sizeLine ∧ Nx (upd H5 D (.dK (putK kvs k z))) else Nx H3) := by
  refine ⟨fun i m H => m = xs.length - i ∧ i ≤ xs.length ∧ Pv i H, ⟨xs.length, by simp, Nat.zero_le _, h0⟩, ?_⟩
  rintro i m H ⟨rfl, hi, p⟩
  have q := hl i H hi p
  by_cases hlt : i < xs.length
  · refine .inr ⟨⟨xs, xs[i], q, by simp [hlt]⟩, Pv (i + 1), fun H' p' => ⟨xs.length - (i + 1), by omega, rfl, hlt, p'⟩, ?_⟩
    rintro x H' ⟨T, y, rfl, hT, rfl, hy⟩
    exact hs i y H T (hy xs q) p hT
  · have e : i = xs.length := by omega
    subst e
    exact .inl ⟨⟨xs, q, rfl⟩, hd H p⟩
theorem ints_of : ∀ {xs : List V}, (∀ x ∈ xs, ∃ i, x = V.int i) → ∃ is : List Int, xs = is.map V.int
  | [], _ => ⟨[], rfl⟩
  | x :: xs, h => by
    obtain ⟨i, rfl⟩ := h x (List.mem_cons_self ..)
    obtain ⟨is, rfl⟩ := ints_of (xs := xs) fun y hy => h y (List.mem_cons_of_mem _ hy)
    exact ⟨i :: is, rfl⟩
/-- what a due of none says -/
structure GoodC (m : Nat) (g r : Sh) (ss : List Sh) : Prop where
  sq : ((g.isL || g.isT) && (r.isL || r.isT)) = true
  le : (items g).length ≤ 60
  ln : (items r).length ≤ (items g).length
  wd : ∀ j, j < (items g).length → wordC m (items g) ss j = none
theorem scan_get {f : Nat → Option Str} : ∀ {n : Nat}, scan f n = none → ∀ j, j < n → f j = none
  | 0, _, j, hj => absurd hj (Nat.not_lt_zero j)
  | n + 1, h, j, hj => by
    have h' : (match scan f n with | some r => some r | none => (f n).map fun w => (n, w)) = none := h
    cases e : scan f n with
    | some r => rw [e] at h'; cases h'
    | none =>
      rw [e] at h'
      rcases Nat.lt_or_ge j n with hl | hl
      · exact scan_get e j hl
      · obtain rfl : j = n := by omega
        cases e2 : f j with
        | none => rfl
        | some w => rw [e2] at h'; cases h'
theorem goodC_of {m : Nat} {g r : Sh} {ss : List Sh} (h : dueC m g r ss = none) : GoodC m g r ss := by
  unfold dueC at h
  by_cases h1 : ((g.isL || g.isT) && (r.isL || r.isT)) = true
  · rw [if_pos h1] at h
    by_cases h2 : (items g).length ≤ 60
    · rw [if_pos h2] at h
      cases e : scan (wordC m (items g) ss) (items g).length with
      | some p =>
        rw [e] at h
        cases h
      | none =>
        rw [e] at h
        have h' : (if (items g).length < (items r).length then some ((((items g).length : Nat) : Int), ("rows" : Str)) else none) = none := h
        by_cases h3 : (items g).length < (items r).length
        · rw [if_pos h3] at h'; cases h'
        · exact ⟨h1, h2, by omega, scan_get e⟩
    · rw [if_neg h2] at h; cases h
  · rw [if_neg h1] at h; cases h
theorem rowW_good {m n : Nat} {s : Sh} (h : rowW m n s = none) : (s.isL || s.isT) = true ∧ ∃ ts : List Int, items s = ts.map V.int ∧ ts.length = n ∧ ∀ t ∈ ts, 0 ≤ t ∧ t < (m : Nat) := by
  unfold rowW at h
  by_cases h1 : (s.isL || s.isT) = true
  · rw [if_pos h1] at h
    by_cases h2 : (items s).length = n
    · rw [if_pos h2] at h
      by_cases h3 : ∀ x ∈ items s, wholeB x 0 ((m : Nat) - 1) = true
      · obtain ⟨ts, e⟩ := ints_of fun x hx => let ⟨b, e, _⟩ := whole_int (h3 x hx); ⟨b, e⟩
        refine ⟨h1, ts, e, by rw [← h2, e, List.length_map], fun t ht => ?_⟩
        have q : V.int t ∈ items s := by rw [e]; exact List.mem_map.mpr ⟨t, ht, rfl⟩
        obtain ⟨b, eb, b0, b1⟩ := whole_int (h3 _ q)
        have : t = b := by injection eb
        subst this
        exact ⟨b0, by omega⟩
      · rw [if_neg h3] at h; cases h
    · rw [if_neg h2] at h; cases h
  · rw [if_neg h1] at h; cases h
theorem word_good {m j : Nat} {gs : List V} {ss : List Sh} {x : V} (hx : gs[j]? = some x) (h : wordC m gs ss j = none) : wholeB x 0 1000000000 = true ∧ ∃ s, ss[j]? = some s ∧ rowW m j s = none := by
  unfold wordC at h
  rw [hx] at h
  have h' : (if wholeB x 0 1000000000 = true then if ordB gs j = true then some ("order" : Str) else match ss[j]? with | none => some ("row" : Str) | some s => rowW m j s else some ("label" : Str)) = none := h
  by_cases h1 : wholeB x 0 1000000000 = true
  · rw [if_pos h1] at h'
    by_cases h2 : ordB gs j = true
    · rw [if_pos h2] at h'; cases h'
    · rw [if_neg h2] at h'
      cases e : ss[j]? with
      | none => rw [e] at h'; cases h'
      | some s => rw [e] at h'; exact ⟨h1, s, rfl, h'⟩
  · rw [if_neg h1] at h'; cases h'
/-- guests are ints -/
theorem GoodC.ints {m : Nat} {g r : Sh} {ss : List Sh} (h : GoodC m g r ss) : ∃ is : List Int, items g = is.map V.int := by
  refine ints_of fun x hx => ?_
  obtain ⟨j, hj⟩ := List.getElem?_of_mem hx
  obtain ⟨w, _⟩ := word_good hj (h.wd j (List.getElem?_eq_some_iff.mp hj).1)
  obtain ⟨b, e, _⟩ := whole_int w
  exact ⟨b, e⟩
theorem GoodC.row {m : Nat} {g r : Sh} {ss : List Sh} (h : GoodC m g r ss) {j : Nat} (hj : j < (items g).length) : ∃ s, ss[j]? = some s ∧ rowW m j s = none :=
  (word_good (List.getElem?_eq_getElem hj) (h.wd j hj)).2
/-- the class Company in the written part -/
structure CoC (K : PySem.W.Frag) (C : Addr) : Prop where
  cl : Cls K C
  nT : NoAttr K C "ties"
  nG : NoAttr K C "guests"
  nR : NoAttr K C "rows"
  nB : NoAttr K C "table"
  nP : NoAttr K C "_places"
def f1 (t : Addr) : List (Str × V) := putF "ties" (.ref t) []
def f2 (t g : Addr) : List (Str × V) := putF "guests" (.ref g) (f1 t)
def f3 (t g r : Addr) : List (Str × V) := putF "rows" (.ref r) (f2 t g)
def f4 (t g r b : Addr) : List (Str × V) := putF "table" (.ref b) (f3 t g r)
def cf (t g r b p : Addr) : List (Str × V) := putF "_places" (.ref p) (f4 t g r b)
theorem l1 (t : Addr) : (f1 t).length < 1000 := Nat.lt_of_le_of_lt (length_putF _ _ _) (by decide)
theorem l2' {f : Str} {v : V} {fs : List (Str × V)} {n : Nat} (h : fs.length ≤ n) : (putF f v fs).length ≤ n + 1 := Nat.le_trans (length_putF _ _ _) (by omega)
theorem l2 (t g : Addr) : (f2 t g).length < 1000 := Nat.lt_of_le_of_lt (l2' (n := 1) (l2' (n := 0) (Nat.le_refl _))) (by decide)
theorem l3 (t g r : Addr) : (f3 t g r).length < 1000 := Nat.lt_of_le_of_lt (l2' (n := 2) (l2' (n := 1) (l2' (n := 0) (Nat.le_refl _)))) (by decide)
theorem l4 (t g r b : Addr) : (f4 t g r b).length < 1000 := Nat.lt_of_le_of_lt (l2' (n := 3) (l2' (n := 2) (l2' (n := 1) (l2' (n := 0) (Nat.le_refl _))))) (by decide)
theorem ne_ties_guests : ¬ (("ties" : Str) = "guests") := by decide +kernel
theorem ne_ties_rows : ¬ (("ties" : Str) = "rows") := by decide +kernel
theorem ne_ties_table : ¬ (("ties" : Str) = "table") := by decide +kernel
theorem ne_ties__places : ¬ (("ties" : Str) = "_places") := by decide +kernel
theorem ne_guests_ties : ¬ (("guests" : Str) = "ties") := by decide +kernel
theorem ne_guests_rows : ¬ (("guests" : Str) = "rows") := by decide +kernel
theorem ne_guests_table : ¬ (("guests" : Str) = "table") := by decide +kernel
theorem ne_guests__places : ¬ (("guests" : Str) = "_places") := by decide +kernel
theorem ne_rows_ties : ¬ (("rows" : Str) = "ties") := by decide +kernel
theorem ne_rows_guests : ¬ (("rows" : Str) = "guests") := by decide +kernel
theorem ne_rows_table : ¬ (("rows" : Str) = "table") := by decide +kernel
theorem ne_rows__places : ¬ (("rows" : Str) = "_places") := by decide +kernel
theorem ne_table_ties : ¬ (("table" : Str) = "ties") := by decide +kernel
theorem ne_table_guests : ¬ (("table" : Str) = "guests") := by decide +kernel
theorem ne_table_rows : ¬ (("table" : Str) = "rows") := by decide +kernel
theorem ne_table__places : ¬ (("table" : Str) = "_places") := by decide +kernel
theorem ne__places_ties : ¬ (("_places" : Str) = "ties") := by decide +kernel
theorem ne__places_guests : ¬ (("_places" : Str) = "guests") := by decide +kernel
theorem ne__places_rows : ¬ (("_places" : Str) = "rows") := by decide +kernel
theorem ne__places_table : ¬ (("_places" : Str) = "table") := by decide +kernel
theorem f3_rows (t g r : Addr) : (f3 t g r).lookup ("rows" : Str) = some (.ref r) := by
  unfold f3
  rw [lookup_putF, if_pos rfl]
theorem f4_guests (t g r b : Addr) : (f4 t g r b).lookup ("guests" : Str) = some (.ref g) := by
  unfold f4 f3 f2
  rw [lookup_putF, if_neg ne_guests_table, lookup_putF, if_neg ne_guests_rows, lookup_putF, if_pos rfl]
theorem cf_guests (t g r b p : Addr) : (cf t g r b p).lookup ("guests" : Str) = some (.ref g) := by
  unfold cf
  rw [lookup_putF, if_neg ne_guests__places, f4_guests]
theorem cf_rows (t g r b p : Addr) : (cf t g r b p).lookup ("rows" : Str) = some (.ref r) := by
  unfold cf f4
  rw [lookup_putF, if_neg ne_rows__places, lookup_putF, if_neg ne_rows_table, f3_rows]
theorem TiesAt.ne {C CC : Addr} {H : Hp} {x dx t : Addr} {ns : List Int} (h : TiesAt C H t ns) (hx : H x = some (.ins CC dx [])) : t ≠ x := by
  obtain ⟨d, tb, e, _⟩ := h
  refine ne_of e hx fun z => ?_
  injection z with _ _ z
  have q := tf_backs tb (ns.length : Nat)
  rw [z] at q
  cases q
theorem TiesAt.but {C : Addr} {H H' : Hp} {x t CC dx : Addr} {ns : List Int} (h : TiesAt C H t ns) (hx : H x = some (.ins CC dx [])) (B : ∀ b o, b ≠ x → H b = some o → H' b = some o) : TiesAt C H' t ns := by
  have nt := h.ne hx
  obtain ⟨d, tb, e, e2⟩ := h
  exact ⟨d, tb, B _ _ nt e, B _ _ (ne_of e2 hx (by intro z; cases z)) e2⟩
/-- a company at x: its guests, the items of its rows -/
def CompAt (CC : Addr) (H : Hp) (x : Addr) (gs : List V) (rss : List (List V)) : Prop := ∃ (dx t g r b p : Addr) (ps : List Addr), H x = some (.ins CC dx (cf t g r b p)) ∧ H g = some (.tup gs) ∧ H r = some (.tup (ps.map V.ref)) ∧ ps.length = rss.length ∧ ∀ (j : Nat) (a : Addr) (rs : List V), ps[j]? = some a → rss[j]? = some rs → H a = some (.tup rs)
theorem CompAt.keep {CC : Addr} {H H' : Hp} {x : Addr} {gs : List V} {rss : List (List V)} (h : CompAt CC H x gs rss) (S : Same H H') : CompAt CC H' x gs rss := by
  obtain ⟨dx, t, g, r, b, p, ps, a1, a2, a3, a4, a5⟩ := h
  exact ⟨dx, t, g, r, b, p, ps, S _ _ a1, S _ _ a2, S _ _ a3, a4, fun j a rs e1 e2 => S _ _ (a5 j a rs e1 e2)⟩
abbrev s_Company_init : Stmt := inClass (top 16) 0
theorem sc_Company_init : FnScope ["self", "ties", "guests", "rows", "row", "place", "label"] ["self", "ties", "guests", "rows"] (defScope s_Company_init) := ⟨rfl, rfl, rfl, by decide +kernel, rfl, by decide +kernel, by decide +kernel⟩
def spCompI (C CC CB : Addr) : Sp := fun vs H Q E => ∃ (x dx t : Addr) (ns : List Int) (g r : V) (sg sr : Sh) (ss : List Sh), vs = [.ref x, .ref t, g, r] ∧ H x = some (.ins CC dx []) ∧ TiesAt C H t ns ∧ Is H g sg ∧ Known H (items sg) ∧ Is H r sr ∧ ShAll H (items sr) ss ∧ (items sg).length ≤ 1000 ∧
  (∀ i u, dueC ns.length sg sr ss = some (i, u) → Tells2 H CB "index" "what" (.int i) (.str u) E) ∧ (dueC ns.length sg sr ss = none → ∀ H', (∀ b o, b ≠ x → H b = some o → H' b = some o) → CompAt CC H' x (items sg) (ss.map items) → Q .non H')
section
variable {P : Program} {w : World} {K : PySem.W.Frag} {mg : Str → Option Value} {base : Heap}
theorem ok_Company_init {f C CC CB fK fT : Addr} {fd fdK fdT : FuncData} {dvs : List V} (F : FunD K "__init__" "Company.__init__" (defArgs s_Company_init) (defBody s_Company_init) (defScope s_Company_init) dvs [] f fd) (c : CoC K CC) (nt : mg "tuple" = none) (ne : mg "enumerate" = none)
    (GK : Cal P w K mg base (L2.CX P w) 4 "_check_company" fK fdK ["ties", "guests", "rows"] (spCC C CB)) (GT : Cal P w K mg base CX0 1 "_table_of" fT fdT ["ties", "rows"] (spTable C)) : FnOk P w K mg base (L2.CX P w) 5 f fd ["self", "ties", "guests", "rows"] (spCompI C CC CB) := by
  refine F.ok sc_Company_init (fun vs H Q E h => ?_) (fun cdv A outer s H vs Q E hr h => ?_)
  · obtain ⟨x, dx, t, ns, g, r, sg, sr, ss, rfl, _⟩ := h
    rfl
  · obtain ⟨x, dx, t, ns, g, r, sg, sr, ss, rfl, hx, hT, hg, kg, hrr, hs, lg, k1, k2⟩ := h
    cases sg with
    | sc u =>
      refine ⟨_, (pss_cons 
  (ps_expr (pcal GK hr (passes_call (takes_of rfl rfl rfl rfl) (fun _ _ _ _ h => h)) (pa_cons (pv 1) (pa_cons (pv 2) (pa_cons (pv 3) pa_nil))))) (pss_cons 
  (ps_fld (pv 0) (pv 1) rfl) (pss_cons 
  (ps_fld (pv 0) (pe_callTy (T := "tuple") (r := rTup K) call_tuple_of (by rfl) nt (by decide +kernel) (pa_cons (pv 2) pa_nil)) rfl) (pss_cons 
  (ps_fld (pv 0) (pe_callTy (T := "tuple") (r := rTup K) call_tuple_of (by rfl) nt (by decide +kernel) (pa_cons (pe_lc (own := [("row", 4)]) (g := gName 4) (by rfl) sc_Company_init.nd (pi_list (pv 3)) (blkOk_by (own := [("row", 4)]) (N := ["self", "ties", "guests", "rows", "row", "place", "label"]) (sc := defScope s_Company_init) (by decide +kernel)) (fun _ _ _ _ _ => pg_name (i := 4) sc_Company_init.nd rfl (Or.inl rfl)) (fun _ _ _ _ _ => pts_nil) (fun _ _ _ _ _ => (pe_callTy (T := "tuple") (r := rTup K) call_tuple_of (by rfl) nt (by decide +kernel) (pa_cons (pv 4) pa_nil)))) pa_nil)) rfl) (pss_cons 
  (ps_fld (pv 0) (pcal GT hr pass0 (pa_cons (pv 1) (pa_cons (pe_fld (pv 0) rfl) pa_nil))) rfl) (pss_one 
  (ps_fld (pv 0) (pe_dc (own := [("place", 5), ("label", 6)]) (g := gTup K 2 (gCons (gName 5) (gCons (gName 6) gNil))) (by rfl) sc_Company_init.nd (pi_enumT (by rfl) ne (pa_cons (pe_fld (pv 0) rfl) pa_nil)) (blkOk_by (own := [("place", 5), ("label", 6)]) (N := ["self", "ties", "guests", "rows", "row", "place", "label"]) (sc := defScope s_Company_init) (by decide +kernel)) (fun _ _ _ _ _ => pg_tup (by rfl) (pgs_cons (pg_name (i := 5) sc_Company_init.nd rfl (Or.inl rfl)) (pgs_cons (pg_name (i := 6) sc_Company_init.nd rfl (Or.inl rfl)) pgs_nil))) (fun _ _ _ _ _ => pts_nil) (fun _ _ _ _ _ => pv 6) (fun _ _ _ _ _ => pv 5)) rfl))))))), ?_⟩
      exact ⟨_, rfl, _, rfl, _, rfl, t, ns, g, r, .sc u, sr, ss, rfl, hT, hg, kg, hrr, hs, lg, k1, fun hd => nomatch (goodC_of hd).sq⟩
    | dk =>
      refine ⟨_, (pss_cons 
  (ps_expr (pcal GK hr (passes_call (takes_of rfl rfl rfl rfl) (fun _ _ _ _ h => h)) (pa_cons (pv 1) (pa_cons (pv 2) (pa_cons (pv 3) pa_nil))))) (pss_cons 
  (ps_fld (pv 0) (pv 1) rfl) (pss_cons 
  (ps_fld (pv 0) (pe_callTy (T := "tuple") (r := rTup K) call_tuple_of (by rfl) nt (by decide +kernel) (pa_cons (pv 2) pa_nil)) rfl) (pss_cons 
  (ps_fld (pv 0) (pe_callTy (T := "tuple") (r := rTup K) call_tuple_of (by rfl) nt (by decide +kernel) (pa_cons (pe_lc (own := [("row", 4)]) (g := gName 4) (by rfl) sc_Company_init.nd (pi_list (pv 3)) (blkOk_by (own := [("row", 4)]) (N := ["self", "ties", "guests", "rows", "row", "place", "label"]) (sc := defScope s_Company_init) (by decide +kernel)) (fun _ _ _ _ _ => pg_name (i := 4) sc_Company_init.nd rfl (Or.inl rfl)) (fun _ _ _ _ _ => pts_nil) (fun _ _ _ _ _ => (pe_callTy (T := "tuple") (r := rTup K) call_tuple_of (by rfl) nt (by decide +kernel) (pa_cons (pv 4) pa_nil)))) pa_nil)) rfl) (pss_cons 
  (ps_fld (pv 0) (pcal GT hr pass0 (pa_cons (pv 1) (pa_cons (pe_fld (pv 0) rfl) pa_nil))) rfl) (pss_one 
  (ps_fld (pv 0) (pe_dc (own := [("place", 5), ("label", 6)]) (g := gTup K 2 (gCons (gName 5) (gCons (gName 6) gNil))) (by rfl) sc_Company_init.nd (pi_enumT (by rfl) ne (pa_cons (pe_fld (pv 0) rfl) pa_nil)) (blkOk_by (own := [("place", 5), ("label", 6)]) (N := ["self", "ties", "guests", "rows", "row", "place", "label"]) (sc := defScope s_Company_init) (by decide +kernel)) (fun _ _ _ _ _ => pg_tup (by rfl) (pgs_cons (pg_name (i := 5) sc_Company_init.nd rfl (Or.inl rfl)) (pgs_cons (pg_name (i := 6) sc_Company_init.nd rfl (Or.inl rfl)) pgs_nil))) (fun _ _ _ _ _ => pts_nil) (fun _ _ _ _ _ => pv 6) (fun _ _ _ _ _ => pv 5)) rfl))))))), ?_⟩
      exact ⟨_, rfl, _, rfl, _, rfl, t, ns, g, r, .dk, sr, ss, rfl, hT, hg, kg, hrr, hs, lg, k1, fun hd => nomatch (goodC_of hd).sq⟩
    | lst gs =>
      cases sr with
      | sc u =>
        refine ⟨_, (pss_cons 
  (ps_expr (pcal GK hr (passes_call (takes_of rfl rfl rfl rfl) (fun _ _ _ _ h => h)) (pa_cons (pv 1) (pa_cons (pv 2) (pa_cons (pv 3) pa_nil))))) (pss_cons 
  (ps_fld (pv 0) (pv 1) rfl) (pss_cons 
  (ps_fld (pv 0) (pe_callTy (T := "tuple") (r := rTup K) call_tuple_of (by rfl) nt (by decide +kernel) (pa_cons (pv 2) pa_nil)) rfl) (pss_cons 
  (ps_fld (pv 0) (pe_callTy (T := "tuple") (r := rTup K) call_tuple_of (by rfl) nt (by decide +kernel) (pa_cons (pe_lc (own := [("row", 4)]) (g := gName 4) (by rfl) sc_Company_init.nd (pi_list (pv 3)) (blkOk_by (own := [("row", 4)]) (N := ["self", "ties", "guests", "rows", "row", "place", "label"]) (sc := defScope s_Company_init) (by decide +kernel)) (fun _ _ _ _ _ => pg_name (i := 4) sc_Company_init.nd rfl (Or.inl rfl)) (fun _ _ _ _ _ => pts_nil) (fun _ _ _ _ _ => (pe_callTy (T := "tuple") (r := rTup K) call_tuple_of (by rfl) nt (by decide +kernel) (pa_cons (pv 4) pa_nil)))) pa_nil)) rfl) (pss_cons 
  (ps_fld (pv 0) (pcal GT hr pass0 (pa_cons (pv 1) (pa_cons (pe_fld (pv 0) rfl) pa_nil))) rfl) (pss_one 
  (ps_fld (pv 0) (pe_dc (own := [("place", 5), ("label", 6)]) (g := gTup K 2 (gCons (gName 5) (gCons (gName 6) gNil))) (by rfl) sc_Company_init.nd (pi_enumT (by rfl) ne (pa_cons (pe_fld (pv 0) rfl) pa_nil)) (blkOk_by (own := [("place", 5), ("label", 6)]) (N := ["self", "ties", "guests", "rows", "row", "place", "label"]) (sc := defScope s_Company_init) (by decide +kernel)) (fun _ _ _ _ _ => pg_tup (by rfl) (pgs_cons (pg_name (i := 5) sc_Company_init.nd rfl (Or.inl rfl)) (pgs_cons (pg_name (i := 6) sc_Company_init.nd rfl (Or.inl rfl)) pgs_nil))) (fun _ _ _ _ _ => pts_nil) (fun _ _ _ _ _ => pv 6) (fun _ _ _ _ _ => pv 5)) rfl))))))), ?_⟩
        exact ⟨_, rfl, _, rfl, _, rfl, t, ns, _, _, .lst gs, .sc u, ss, rfl, hT, hg, kg, hrr, hs, lg, k1, fun hd => nomatch (goodC_of hd).sq⟩
      | dk =>
        refine ⟨_, (pss_cons 
  (ps_expr (pcal GK hr (passes_call (takes_of rfl rfl rfl rfl) (fun _ _ _ _ h => h)) (pa_cons (pv 1) (pa_cons (pv 2) (pa_cons (pv 3) pa_nil))))) (pss_cons 
  (ps_fld (pv 0) (pv 1) rfl) (pss_cons 
  (ps_fld (pv 0) (pe_callTy (T := "tuple") (r := rTup K) call_tuple_of (by rfl) nt (by decide +kernel) (pa_cons (pv 2) pa_nil)) rfl) (pss_cons 
  (ps_fld (pv 0) (pe_callTy (T := "tuple") (r := rTup K) call_tuple_of (by rfl) nt (by decide +kernel) (pa_cons (pe_lc (own := [("row", 4)]) (g := gName 4) (by rfl) sc_Company_init.nd (pi_list (pv 3)) (blkOk_by (own := [("row", 4)]) (N := ["self", "ties", "guests", "rows", "row", "place", "label"]) (sc := defScope s_Company_init) (by decide +kernel)) (fun _ _ _ _ _ => pg_name (i := 4) sc_Company_init.nd rfl (Or.inl rfl)) (fun _ _ _ _ _ => pts_nil) (fun _ _ _ _ _ => (pe_callTy (T := "tuple") (r := rTup K) call_tuple_of (by rfl) nt (by decide +kernel) (pa_cons (pv 4) pa_nil)))) pa_nil)) rfl) (pss_cons 
  (ps_fld (pv 0) (pcal GT hr pass0 (pa_cons (pv 1) (pa_cons (pe_fld (pv 0) rfl) pa_nil))) rfl) (pss_one 
  (ps_fld (pv 0) (pe_dc (own := [("place", 5), ("label", 6)]) (g := gTup K 2 (gCons (gName 5) (gCons (gName 6) gNil))) (by rfl) sc_Company_init.nd (pi_enumT (by rfl) ne (pa_cons (pe_fld (pv 0) rfl) pa_nil)) (blkOk_by (own := [("place", 5), ("label", 6)]) (N := ["self", "ties", "guests", "rows", "row", "place", "label"]) (sc := defScope s_Company_init) (by decide +kernel)) (fun _ _ _ _ _ => pg_tup (by rfl) (pgs_cons (pg_name (i := 5) sc_Company_init.nd rfl (Or.inl rfl)) (pgs_cons (pg_name (i := 6) sc_Company_init.nd rfl (Or.inl rfl)) pgs_nil))) (fun _ _ _ _ _ => pts_nil) (fun _ _ _ _ _ => pv 6) (fun _ _ _ _ _ => pv 5)) rfl))))))), ?_⟩
        exact ⟨_, rfl, _, rfl, _, rfl, t, ns, _, _, .lst gs, .dk, ss, rfl, hT, hg, kg, hrr, hs, lg, k1, fun hd => nomatch (goodC_of hd).sq⟩
      | lst rs =>
        obtain ⟨pg, rfl, hp⟩ := hg
        obtain ⟨pr, rfl, hq⟩ := hrr
        refine ⟨_, (pss_cons 
    (ps_expr (pcal GK hr (passes_call (takes_of rfl rfl rfl rfl) (fun _ _ _ _ h => h)) (pa_cons (pv 1) (pa_cons (pv 2) (pa_cons (pv 3) pa_nil))))) (pss_cons 
    (ps_fld (pv 0) (pv 1) rfl) (pss_cons 
    (ps_fld (pv 0) (pe_callTy (T := "tuple") (r := rTup K) call_tuple_of (by rfl) nt (by decide +kernel) (pa_cons (pv 2) pa_nil)) rfl) (pss_cons 
    (ps_fld (pv 0) (pe_callTy (T := "tuple") (r := rTup K) call_tuple_of (by rfl) nt (by decide +kernel) (pa_cons (pe_lc (own := [("row", 4)]) (g := gName 4) (by rfl) sc_Company_init.nd (pi_list (pv 3)) (blkOk_by (own := [("row", 4)]) (N := ["self", "ties", "guests", "rows", "row", "place", "label"]) (sc := defScope s_Company_init) (by decide +kernel)) (fun _ _ _ _ _ => pg_name (i := 4) sc_Company_init.nd rfl (Or.inl rfl)) (fun _ _ _ _ _ => pts_nil) (fun _ _ _ _ _ => (pe_callTy (T := "tuple") (r := rTup K) call_tuple_of (by rfl) nt (by decide +kernel) (pa_cons (pv 4) pa_nil)))) pa_nil)) rfl) (pss_cons 
    (ps_fld (pv 0) (pcal GT hr pass0 (pa_cons (pv 1) (pa_cons (pe_fld (pv 0) rfl) pa_nil))) rfl) (pss_one 
    (ps_fld (pv 0) (pe_dc (own := [("place", 5), ("label", 6)]) (g := gTup K 2 (gCons (gName 5) (gCons (gName 6) gNil))) (by rfl) sc_Company_init.nd (pi_enumT (by rfl) ne (pa_cons (pe_fld (pv 0) rfl) pa_nil)) (blkOk_by (own := [("place", 5), ("label", 6)]) (N := ["self", "ties", "guests", "rows", "row", "place", "label"]) (sc := defScope s_Company_init) (by decide +kernel)) (fun _ _ _ _ _ => pg_tup (by rfl) (pgs_cons (pg_name (i := 5) sc_Company_init.nd rfl (Or.inl rfl)) (pgs_cons (pg_name (i := 6) sc_Company_init.nd rfl (Or.inl rfl)) pgs_nil))) (fun _ _ _ _ _ => pts_nil) (fun _ _ _ _ _ => pv 6) (fun _ _ _ _ _ => pv 5)) rfl))))))), ?_⟩
        refine ⟨_, rfl, _, rfl, _, rfl, t, ns, _, _, Sh.lst gs, Sh.lst rs, ss, rfl, hT, ⟨pg, rfl, hp⟩, kg, ⟨pr, rfl, hq⟩, hs, lg, k1, fun hd H1 S1 => ?_⟩
        have G := goodC_of hd
        have hx1 := S1 _ _ hx
        have hp1 := S1 _ _ hp
        have hq1 := S1 _ _ hq
        have hT1 := hT.keep S1
        have kin : ∃ is : List Int, gs = is.map V.int := G.ints
        have gle : gs.length ≤ 60 := G.le
        have rle : rs.length ≤ gs.length := G.ln
        have npg : pg ≠ x := ne_of hp hx (by intro z; cases z)
        have sl : rs.length = ss.length := hs.len
        -- self.ties
        refine ⟨_, rfl, _, rfl, x, CC, dx, [], rfl, hx1, c.cl, c.nT, (by decide), ?_⟩
        have hx2 : (upd H1 x (.ins CC dx (putF "ties" (.ref t) []))) x = some (.ins CC dx (f1 t)) := upd_same
        have B2 : ∀ b o, b ≠ x → H b = some o → (upd H1 x (.ins CC dx (putF "ties" (.ref t) []))) b = some o := fun b o nb eb => by rw [upd_ne nb]; exact S1 _ _ eb
        have hp2 := B2 _ _ npg hp
        -- self.guests
        refine ⟨_, rfl, pg, gs, rfl, .inl ⟨SqL.of hp2, fun ga hga => ?_⟩⟩
        have nga : ga ≠ x := (ne_of_none hx2 hga).symm
        refine ⟨_, rfl, x, CC, dx, _, rfl, (by rw [upd_ne nga.symm]; exact hx2), c.cl, c.nG, l1 t, ?_⟩
        have hx3 : (upd (upd (upd H1 x (.ins CC dx (putF "ties" (.ref t) []))) ga (.tup gs)) x (.ins CC dx (putF "guests" (.ref ga) (f1 t)))) x = some (.ins CC dx (f2 t ga)) := upd_same
        have hg3 : (upd (upd (upd H1 x (.ins CC dx (putF "ties" (.ref t) []))) ga (.tup gs)) x (.ins CC dx (putF "guests" (.ref ga) (f1 t)))) ga = some (.tup gs) := by rw [upd_ne nga, upd_same]
        have B3 : ∀ b o, b ≠ x → H b = some o → (upd (upd (upd H1 x (.ins CC dx (putF "ties" (.ref t) []))) ga (.tup gs)) x (.ins CC dx (putF "guests" (.ref ga) (f1 t)))) b = some o := fun b o nb eb => by
          have e := B2 b o nb eb
          rw [upd_ne nb, upd_ne (ne_of_none e hga)]
          exact e
        generalize upd (upd (upd H1 x (.ins CC dx (putF "ties" (.ref t) []))) ga (.tup gs)) x (.ins CC dx (putF "guests" (.ref ga) (f1 t))) = H3 at hx3 hg3 B3
        -- self.rows
        have hq3 := B3 _ _ (ne_of hq hx (by intro z; cases z)) hq
        refine ⟨_, rfl, pr, rfl, ⟨_, SqL.of hq3⟩, fun D hD => ?_⟩
        refine lc_list (K := K) (a := pr) (xs := rs) (fun i H4 => Same H3 H4 ∧ H3 D = none ∧ ∃ ps : List Addr, ps.length = i ∧ H4 D = some (.lst (ps.map V.ref)) ∧ ∀ (j : Nat) (a : Addr) (s : Sh), ps[j]? = some a → ss[j]? = some s → H4 a = some (.tup (items s)))
          ⟨new_same hD, hD, [], rfl, upd_same, fun j a s e => nomatch e⟩ (fun i H4 _ ⟨S4, _⟩ => SqL.of (S4 _ _ hq3)) ?_ ?_
        · rintro i y H4 hy ⟨S4, D0, ps, pl, eD, hps⟩
          have hi : i < rs.length := (List.getElem?_eq_some_iff.mp hy).1
          obtain ⟨s, es, isy, _⟩ := hs.at_ hy
          obtain ⟨s', es', ew⟩ := G.row (j := i) (by show i < gs.length; omega)
          obtain rfl : s = s' := by rw [es] at es'; exact Option.some.inj es'
          obtain ⟨sq, _⟩ := rowW_good ew
          refine ⟨rfl, yesT ?_⟩
          have put : ∀ (H5 : Hp) (z : Addr), Same H4 H5 → H5 z = some (.tup (items s)) → ∃ acc : List V, H5 D = some (.lst acc) ∧ acc.length < sizeLine ∧ Same H3 (upd H5 D (.lst (acc ++ [.ref z]))) ∧ H3 D = none ∧ ∃ ps : List Addr, ps.length = i + 1 ∧ (upd H5 D (.lst (acc ++ [.ref z]))) D = some (.lst (ps.map V.ref)) ∧ ∀ (j : Nat) (a : Addr) (s : Sh), ps[j]? = some a → ss[j]? = some s → (upd H5 D (.lst (acc ++ [.ref z]))) a = some (.tup (items s)) := fun H5 z S5 ez => by
            refine ⟨_, S5 _ _ eD, by rw [List.length_map, pl]; show i < 16777216; omega, fun b o eb => ?_, D0, ps ++ [z], by rw [List.length_append, pl]; rfl, by rw [upd_same, List.map_append]; rfl, fun j a s2 ea e2 => ?_⟩
            · rw [upd_ne (ne_of_none eb D0)]
              exact S5 _ _ (S4 _ _ eb)
            · rcases Nat.lt_or_ge j ps.length with hj | hj
              · rw [List.getElem?_append_left hj] at ea
                have q := S5 _ _ (hps j a s2 ea e2)
                rw [upd_ne (ne_of q (S5 _ _ eD) (by intro z; cases z))]
                exact q
              · have hj2 : j = i := by
                  have := (List.getElem?_eq_some_iff.mp ea).1
                  rw [List.length_append] at this
                  have l : [z].length = 1 := rfl
                  omega
                subst hj2
                rw [← pl, List.getElem?_append_right (Nat.le_refl _), Nat.sub_self] at ea
                obtain rfl : z = a := Option.some.inj ea
                obtain rfl : s = s2 := by rw [es] at e2; exact Option.some.inj e2
                rw [upd_ne (ne_of ez (S5 _ _ eD) (by intro z; cases z))]
                exact ez
          cases s with
          | sc u => cases sq
          | dk => cases sq
          | lst ys =>
            obtain ⟨a, rfl, ea⟩ := isy
            refine ⟨_, rfl, a, ys, rfl, .inl ⟨SqL.of (S4 _ _ (B3 _ _ (ne_of ea hx (by intro z; cases z)) ea)), fun z hz => ?_⟩⟩
            exact put _ z (new_same hz) upd_same
          | tup ys =>
            obtain ⟨a, rfl, ea⟩ := isy
            have ea4 := S4 _ _ (B3 _ _ (ne_of ea hx (by intro z; cases z)) ea)
            exact ⟨_, rfl, a, ys, rfl, .inr ⟨SqT.of ea4, put _ a (Same.refl _) ea4⟩⟩
        · rintro H4 ⟨S4, D0, ps, pl, eD, hps⟩
          refine ⟨D, _, rfl, .inl ⟨SqL.of eD, fun ra hra => ?_⟩⟩
          have hx4 := S4 _ _ hx3
          have nra : ra ≠ x := (ne_of_none hx4 hra).symm
          refine ⟨_, rfl, x, CC, dx, _, rfl, (by rw [upd_ne nra.symm]; exact hx4), c.cl, c.nR, l2 t ga, ?_⟩
          have hx5 : (upd (upd H4 ra (.tup (ps.map V.ref))) x (.ins CC dx (putF "rows" (.ref ra) (f2 t ga)))) x = some (.ins CC dx (f3 t ga ra)) := upd_same
          have hr5 : (upd (upd H4 ra (.tup (ps.map V.ref))) x (.ins CC dx (putF "rows" (.ref ra) (f2 t ga)))) ra = some (.tup (ps.map V.ref)) := by rw [upd_ne nra, upd_same]
          have C5 : ∀ b o, b ≠ x → H4 b = some o → (upd (upd H4 ra (.tup (ps.map V.ref))) x (.ins CC dx (putF "rows" (.ref ra) (f2 t ga)))) b = some o := fun b o nb eb => by
            rw [upd_ne nb, upd_ne (ne_of_none eb hra)]
            exact eb
          generalize upd (upd H4 ra (.tup (ps.map V.ref))) x (.ins CC dx (putF "rows" (.ref ra) (f2 t ga))) = H5 at hx5 hr5 C5
          have B5 : ∀ b o, b ≠ x → H b = some o → H5 b = some o := fun b o nb eb => C5 b o nb (S4 _ _ (B3 b o nb eb))
          have hg5 := C5 _ _ (ne_of hg3 hx3 (by intro z; cases z)) (S4 _ _ hg3)
          have rows5 : ∀ (j : Nat) (a : Addr) (s : Sh), ps[j]? = some a → ss[j]? = some s → H5 a = some (.tup (items s)) := fun j a s ea e2 => by
            have q := hps j a s ea e2
            exact C5 _ _ (ne_of q hx4 (by intro z; cases z)) q
          have hT5 := hT.but hx B5
          have R5 : RowsAt H5 ra ns.length ps := ⟨hr5, fun j a ea => by
            have hj : j < ps.length := (List.getElem?_eq_some_iff.mp ea).1
            obtain ⟨s, es, ew⟩ := G.row (j := j) (by show j < gs.length; omega)
            obtain ⟨_, ts, e1, e2, e3⟩ := rowW_good ew
            exact ⟨ts, by rw [← e1]; exact rows5 j a s ea es, e2, e3⟩⟩
          -- self.table
          refine ⟨_, rfl, _, rfl, x, CC, dx, _, _, rfl, hx5, c.cl, c.nR, f3_rows t ga ra, t, ra, ns, ps, rfl, hT5, R5, by omega, fun H6 z zs S6 _ e6 => ?_⟩
          have hx6 := S6 _ _ hx5
          refine ⟨_, rfl, x, CC, dx, _, rfl, hx6, c.cl, c.nB, l3 t ga ra, ?_⟩
          have hx7 : (upd H6 x (.ins CC dx (putF "table" (.ref z) (f3 t ga ra)))) x = some (.ins CC dx (f4 t ga ra z)) := upd_same
          have C7 : ∀ b o, b ≠ x → H5 b = some o → (upd H6 x (.ins CC dx (putF "table" (.ref z) (f3 t ga ra)))) b = some o := fun b o nb eb => by
            rw [upd_ne nb]
            exact S6 _ _ eb
          generalize upd H6 x (.ins CC dx (putF "table" (.ref z) (f3 t ga ra))) = H7 at hx7 C7
          have hg7 := C7 _ _ (ne_of hg5 hx5 (by intro z; cases z)) hg5
          have hr7 := C7 _ _ (ne_of hr5 hx5 (by intro z; cases z)) hr5
          -- self._places
          refine ⟨_, rfl, x, CC, dx, _, _, rfl, hx7, c.cl, c.nG, f4_guests t ga ra z, ga, gs, rfl, SqT.of hg7, fun D2 hD2 => ?_⟩
          refine dc_enumT (K := K) (a := ga) (xs := gs) (fun i H8 => Same H7 H8 ∧ H7 D2 = none ∧ ∃ kvs : List (Key × V), kvs.length ≤ i ∧ H8 D2 = some (.dK kvs)) ⟨new_same hD2, hD2, [], Nat.le_refl _, upd_same⟩ (fun i H8 _ ⟨S8, _⟩ => SqT.of (S8 _ _ hg7)) ?_ ?_
          · rintro i y H8 T hy ⟨S8, D0', kvs, kl, eK⟩ hT8
            have hi : i < gs.length := (List.getElem?_eq_some_iff.mp hy).1
            obtain ⟨is, eis⟩ := kin
            obtain ⟨n, rfl⟩ : ∃ n, y = V.int n := by
              rw [eis, List.getElem?_map] at hy
              cases e : is[i]? with
              | none => rw [e] at hy; cases hy
              | some n => rw [e] at hy; exact ⟨n, (Option.some.inj hy).symm⟩
            refine ⟨T, _, rfl, SqT.of upd_same, rfl, _, _, rfl, _, _, rfl, rfl, rfl, yesT ?_⟩
            refine ⟨_, rfl, _, rfl, kvs, .inl n, rfl, by rw [upd_ne (ne_of_none eK hT8)]; exact eK, by show kvs.length < 16777216; omega, fun b o eb => ?_, D0', _, Nat.le_trans (length_putK _ _ _) (by omega), upd_same⟩
            rw [upd_ne (ne_of_none eb D0'), upd_ne (ne_of_none (S8 _ _ eb) hT8)]
            exact S8 _ _ eb
          · rintro H8 ⟨S8, D0', kvs, kl, eK⟩
            have hx8 := S8 _ _ hx7
            refine ⟨_, rfl, x, CC, dx, _, rfl, hx8, c.cl, c.nP, l4 t ga ra z, ?_⟩
            have C9 : ∀ b o, b ≠ x → H5 b = some o → (upd H8 x (.ins CC dx (putF "_places" (.ref D2) (f4 t ga ra z)))) b = some o := fun b o nb eb => by
              rw [upd_ne nb]
              exact S8 _ _ (C7 b o nb eb)
            refine k2 hd _ (fun b o nb eb => C9 b o nb (B5 b o nb eb)) ⟨dx, t, ga, ra, z, D2, ps, upd_same, C9 _ _ (ne_of hg5 hx5 (by intro z; cases z)) hg5, C9 _ _ (ne_of hr5 hx5 (by intro z; cases z)) hr5, by rw [List.length_map]; omega, fun j a rs2 ea e2 => ?_⟩
            rw [List.getElem?_map] at e2
            cases e : ss[j]? with
            | none => rw [e] at e2; cases e2
            | some s =>
              rw [e] at e2
              have q := rows5 j a s ea e
              rw [← Option.some.inj e2]
              exact C9 _ _ (ne_of q hx5 (by intro z; cases z)) q
      | tup rs =>
        obtain ⟨pg, rfl, hp⟩ := hg
        obtain ⟨pr, rfl, hq⟩ := hrr
        refine ⟨_, (pss_cons 
    (ps_expr (pcal GK hr (passes_call (takes_of rfl rfl rfl rfl) (fun _ _ _ _ h => h)) (pa_cons (pv 1) (pa_cons (pv 2) (pa_cons (pv 3) pa_nil))))) (pss_cons 
    (ps_fld (pv 0) (pv 1) rfl) (pss_cons 
    (ps_fld (pv 0) (pe_callTy (T := "tuple") (r := rTup K) call_tuple_of (by rfl) nt (by decide +kernel) (pa_cons (pv 2) pa_nil)) rfl) (pss_cons 
    (ps_fld (pv 0) (pe_callTy (T := "tuple") (r := rTup K) call_tuple_of (by rfl) nt (by decide +kernel) (pa_cons (pe_lc (own := [("row", 4)]) (g := gName 4) (by rfl) sc_Company_init.nd (pi_tup (pv 3)) (blkOk_by (own := [("row", 4)]) (N := ["self", "ties", "guests", "rows", "row", "place", "label"]) (sc := defScope s_Company_init) (by decide +kernel)) (fun _ _ _ _ _ => pg_name (i := 4) sc_Company_init.nd rfl (Or.inl rfl)) (fun _ _ _ _ _ => pts_nil) (fun _ _ _ _ _ => (pe_callTy (T := "tuple") (r := rTup K) call_tuple_of (by rfl) nt (by decide +kernel) (pa_cons (pv 4) pa_nil)))) pa_nil)) rfl) (pss_cons 
    (ps_fld (pv 0) (pcal GT hr pass0 (pa_cons (pv 1) (pa_cons (pe_fld (pv 0) rfl) pa_nil))) rfl) (pss_one 
    (ps_fld (pv 0) (pe_dc (own := [("place", 5), ("label", 6)]) (g := gTup K 2 (gCons (gName 5) (gCons (gName 6) gNil))) (by rfl) sc_Company_init.nd (pi_enumT (by rfl) ne (pa_cons (pe_fld (pv 0) rfl) pa_nil)) (blkOk_by (own := [("place", 5), ("label", 6)]) (N := ["self", "ties", "guests", "rows", "row", "place", "label"]) (sc := defScope s_Company_init) (by decide +kernel)) (fun _ _ _ _ _ => pg_tup (by rfl) (pgs_cons (pg_name (i := 5) sc_Company_init.nd rfl (Or.inl rfl)) (pgs_cons (pg_name (i := 6) sc_Company_init.nd rfl (Or.inl rfl)) pgs_nil))) (fun _ _ _ _ _ => pts_nil) (fun _ _ _ _ _ => pv 6) (fun _ _ _ _ _ => pv 5)) rfl))))))), ?_⟩
        refine ⟨_, rfl, _, rfl, _, rfl, t, ns, _, _, Sh.lst gs, Sh.tup rs, ss, rfl, hT, ⟨pg, rfl, hp⟩, kg, ⟨pr, rfl, hq⟩, hs, lg, k1, fun hd H1 S1 => ?_⟩
        have G := goodC_of hd
        have hx1 := S1 _ _ hx
        have hp1 := S1 _ _ hp
        have hq1 := S1 _ _ hq
        have hT1 := hT.keep S1
        have kin : ∃ is : List Int, gs = is.map V.int := G.ints
        have gle : gs.length ≤ 60 := G.le
        have rle : rs.length ≤ gs.length := G.ln
        have npg : pg ≠ x := ne_of hp hx (by intro z; cases z)
        have sl : rs.length = ss.length := hs.len
        -- self.ties
        refine ⟨_, rfl, _, rfl, x, CC, dx, [], rfl, hx1, c.cl, c.nT, (by decide), ?_⟩
        have hx2 : (upd H1 x (.ins CC dx (putF "ties" (.ref t) []))) x = some (.ins CC dx (f1 t)) := upd_same
        have B2 : ∀ b o, b ≠ x → H b = some o → (upd H1 x (.ins CC dx (putF "ties" (.ref t) []))) b = some o := fun b o nb eb => by rw [upd_ne nb]; exact S1 _ _ eb
        have hp2 := B2 _ _ npg hp
        -- self.guests
        refine ⟨_, rfl, pg, gs, rfl, .inl ⟨SqL.of hp2, fun ga hga => ?_⟩⟩
        have nga : ga ≠ x := (ne_of_none hx2 hga).symm
        refine ⟨_, rfl, x, CC, dx, _, rfl, (by rw [upd_ne nga.symm]; exact hx2), c.cl, c.nG, l1 t, ?_⟩
        have hx3 : (upd (upd (upd H1 x (.ins CC dx (putF "ties" (.ref t) []))) ga (.tup gs)) x (.ins CC dx (putF "guests" (.ref ga) (f1 t)))) x = some (.ins CC dx (f2 t ga)) := upd_same
        have hg3 : (upd (upd (upd H1 x (.ins CC dx (putF "ties" (.ref t) []))) ga (.tup gs)) x (.ins CC dx (putF "guests" (.ref ga) (f1 t)))) ga = some (.tup gs) := by rw [upd_ne nga, upd_same]
        have B3 : ∀ b o, b ≠ x → H b = some o → (upd (upd (upd H1 x (.ins CC dx (putF "ties" (.ref t) []))) ga (.tup gs)) x (.ins CC dx (putF "guests" (.ref ga) (f1 t)))) b = some o := fun b o nb eb => by
          have e := B2 b o nb eb
          rw [upd_ne nb, upd_ne (ne_of_none e hga)]
          exact e
        generalize upd (upd (upd H1 x (.ins CC dx (putF "ties" (.ref t) []))) ga (.tup gs)) x (.ins CC dx (putF "guests" (.ref ga) (f1 t))) = H3 at hx3 hg3 B3
        -- self.rows
        have hq3 := B3 _ _ (ne_of hq hx (by intro z; cases z)) hq
        refine ⟨_, rfl, pr, rfl, ⟨_, SqT.of hq3⟩, fun D hD => ?_⟩
        refine lc_tup (K := K) (a := pr) (xs := rs) (fun i H4 => Same H3 H4 ∧ H3 D = none ∧ ∃ ps : List Addr, ps.length = i ∧ H4 D = some (.lst (ps.map V.ref)) ∧ ∀ (j : Nat) (a : Addr) (s : Sh), ps[j]? = some a → ss[j]? = some s → H4 a = some (.tup (items s)))
          ⟨new_same hD, hD, [], rfl, upd_same, fun j a s e => nomatch e⟩ (fun i H4 _ ⟨S4, _⟩ => SqT.of (S4 _ _ hq3)) ?_ ?_
        · rintro i y H4 hy ⟨S4, D0, ps, pl, eD, hps⟩
          have hi : i < rs.length := (List.getElem?_eq_some_iff.mp hy).1
          obtain ⟨s, es, isy, _⟩ := hs.at_ hy
          obtain ⟨s', es', ew⟩ := G.row (j := i) (by show i < gs.length; omega)
          obtain rfl : s = s' := by rw [es] at es'; exact Option.some.inj es'
          obtain ⟨sq, _⟩ := rowW_good ew
          refine ⟨rfl, yesT ?_⟩
          have put : ∀ (H5 : Hp) (z : Addr), Same H4 H5 → H5 z = some (.tup (items s)) → ∃ acc : List V, H5 D = some (.lst acc) ∧ acc.length < sizeLine ∧ Same H3 (upd H5 D (.lst (acc ++ [.ref z]))) ∧ H3 D = none ∧ ∃ ps : List Addr, ps.length = i + 1 ∧ (upd H5 D (.lst (acc ++ [.ref z]))) D = some (.lst (ps.map V.ref)) ∧ ∀ (j : Nat) (a : Addr) (s : Sh), ps[j]? = some a → ss[j]? = some s → (upd H5 D (.lst (acc ++ [.ref z]))) a = some (.tup (items s)) := fun H5 z S5 ez => by
            refine ⟨_, S5 _ _ eD, by rw [List.length_map, pl]; show i < 16777216; omega, fun b o eb => ?_, D0, ps ++ [z], by rw [List.length_append, pl]; rfl, by rw [upd_same, List.map_append]; rfl, fun j a s2 ea e2 => ?_⟩
            · rw [upd_ne (ne_of_none eb D0)]
              exact S5 _ _ (S4 _ _ eb)
            · rcases Nat.lt_or_ge j ps.length with hj | hj
              · rw [List.getElem?_append_left hj] at ea
                have q := S5 _ _ (hps j a s2 ea e2)
                rw [upd_ne (ne_of q (S5 _ _ eD) (by intro z; cases z))]
                exact q
              · have hj2 : j = i := by
                  have := (List.getElem?_eq_some_iff.mp ea).1
                  rw [List.length_append] at this
                  have l : [z].length = 1 := rfl
                  omega
                subst hj2
                rw [← pl, List.getElem?_append_right (Nat.le_refl _), Nat.sub_self] at ea
                obtain rfl : z = a := Option.some.inj ea
                obtain rfl : s = s2 := by rw [es] at e2; exact Option.some.inj e2
                rw [upd_ne (ne_of ez (S5 _ _ eD) (by intro z; cases z))]
                exact ez
          cases s with
          | sc u => cases sq
          | dk => cases sq
          | lst ys =>
            obtain ⟨a, rfl, ea⟩ := isy
            refine ⟨_, rfl, a, ys, rfl, .inl ⟨SqL.of (S4 _ _ (B3 _ _ (ne_of ea hx (by intro z; cases z)) ea)), fun z hz => ?_⟩⟩
            exact put _ z (new_same hz) upd_same
          | tup ys =>
            obtain ⟨a, rfl, ea⟩ := isy
            have ea4 := S4 _ _ (B3 _ _ (ne_of ea hx (by intro z; cases z)) ea)
            exact ⟨_, rfl, a, ys, rfl, .inr ⟨SqT.of ea4, put _ a (Same.refl _) ea4⟩⟩
        · rintro H4 ⟨S4, D0, ps, pl, eD, hps⟩
          refine ⟨D, _, rfl, .inl ⟨SqL.of eD, fun ra hra => ?_⟩⟩
          have hx4 := S4 _ _ hx3
          have nra : ra ≠ x := (ne_of_none hx4 hra).symm
          refine ⟨_, rfl, x, CC, dx, _, rfl, (by rw [upd_ne nra.symm]; exact hx4), c.cl, c.nR, l2 t ga, ?_⟩
          have hx5 : (upd (upd H4 ra (.tup (ps.map V.ref))) x (.ins CC dx (putF "rows" (.ref ra) (f2 t ga)))) x = some (.ins CC dx (f3 t ga ra)) := upd_same
          have hr5 : (upd (upd H4 ra (.tup (ps.map V.ref))) x (.ins CC dx (putF "rows" (.ref ra) (f2 t ga)))) ra = some (.tup (ps.map V.ref)) := by rw [upd_ne nra, upd_same]
          have C5 : ∀ b o, b ≠ x → H4 b = some o → (upd (upd H4 ra (.tup (ps.map V.ref))) x (.ins CC dx (putF "rows" (.ref ra) (f2 t ga)))) b = some o := fun b o nb eb => by
            rw [upd_ne nb, upd_ne (ne_of_none eb hra)]
            exact eb
          generalize upd (upd H4 ra (.tup (ps.map V.ref))) x (.ins CC dx (putF "rows" (.ref ra) (f2 t ga))) = H5 at hx5 hr5 C5
          have B5 : ∀ b o, b ≠ x → H b = some o → H5 b = some o := fun b o nb eb => C5 b o nb (S4 _ _ (B3 b o nb eb))
          have hg5 := C5 _ _ (ne_of hg3 hx3 (by intro z; cases z)) (S4 _ _ hg3)
          have rows5 : ∀ (j : Nat) (a : Addr) (s : Sh), ps[j]? = some a → ss[j]? = some s → H5 a = some (.tup (items s)) := fun j a s ea e2 => by
            have q := hps j a s ea e2
            exact C5 _ _ (ne_of q hx4 (by intro z; cases z)) q
          have hT5 := hT.but hx B5
          have R5 : RowsAt H5 ra ns.length ps := ⟨hr5, fun j a ea => by
            have hj : j < ps.length := (List.getElem?_eq_some_iff.mp ea).1
            obtain ⟨s, es, ew⟩ := G.row (j := j) (by show j < gs.length; omega)
            obtain ⟨_, ts, e1, e2, e3⟩ := rowW_good ew
            exact ⟨ts, by rw [← e1]; exact rows5 j a s ea es, e2, e3⟩⟩
          -- self.table
          refine ⟨_, rfl, _, rfl, x, CC, dx, _, _, rfl, hx5, c.cl, c.nR, f3_rows t ga ra, t, ra, ns, ps, rfl, hT5, R5, by omega, fun H6 z zs S6 _ e6 => ?_⟩
          have hx6 := S6 _ _ hx5
          refine ⟨_, rfl, x, CC, dx, _, rfl, hx6, c.cl, c.nB, l3 t ga ra, ?_⟩
          have hx7 : (upd H6 x (.ins CC dx (putF "table" (.ref z) (f3 t ga ra)))) x = some (.ins CC dx (f4 t ga ra z)) := upd_same
          have C7 : ∀ b o, b ≠ x → H5 b = some o → (upd H6 x (.ins CC dx (putF "table" (.ref z) (f3 t ga ra)))) b = some o := fun b o nb eb => by
            rw [upd_ne nb]
            exact S6 _ _ eb
          generalize upd H6 x (.ins CC dx (putF "table" (.ref z) (f3 t ga ra))) = H7 at hx7 C7
          have hg7 := C7 _ _ (ne_of hg5 hx5 (by intro z; cases z)) hg5
          have hr7 := C7 _ _ (ne_of hr5 hx5 (by intro z; cases z)) hr5
          -- self._places
          refine ⟨_, rfl, x, CC, dx, _, _, rfl, hx7, c.cl, c.nG, f4_guests t ga ra z, ga, gs, rfl, SqT.of hg7, fun D2 hD2 => ?_⟩
          refine dc_enumT (K := K) (a := ga) (xs := gs) (fun i H8 => Same H7 H8 ∧ H7 D2 = none ∧ ∃ kvs : List (Key × V), kvs.length ≤ i ∧ H8 D2 = some (.dK kvs)) ⟨new_same hD2, hD2, [], Nat.le_refl _, upd_same⟩ (fun i H8 _ ⟨S8, _⟩ => SqT.of (S8 _ _ hg7)) ?_ ?_
          · rintro i y H8 T hy ⟨S8, D0', kvs, kl, eK⟩ hT8
            have hi : i < gs.length := (List.getElem?_eq_some_iff.mp hy).1
            obtain ⟨is, eis⟩ := kin
            obtain ⟨n, rfl⟩ : ∃ n, y = V.int n := by
              rw [eis, List.getElem?_map] at hy
              cases e : is[i]? with
              | none => rw [e] at hy; cases hy
              | some n => rw [e] at hy; exact ⟨n, (Option.some.inj hy).symm⟩
            refine ⟨T, _, rfl, SqT.of upd_same, rfl, _, _, rfl, _, _, rfl, rfl, rfl, yesT ?_⟩
            refine ⟨_, rfl, _, rfl, kvs, .inl n, rfl, by rw [upd_ne (ne_of_none eK hT8)]; exact eK, by show kvs.length < 16777216; omega, fun b o eb => ?_, D0', _, Nat.le_trans (length_putK _ _ _) (by omega), upd_same⟩
            rw [upd_ne (ne_of_none eb D0'), upd_ne (ne_of_none (S8 _ _ eb) hT8)]
            exact S8 _ _ eb
          · rintro H8 ⟨S8, D0', kvs, kl, eK⟩
            have hx8 := S8 _ _ hx7
            refine ⟨_, rfl, x, CC, dx, _, rfl, hx8, c.cl, c.nP, l4 t ga ra z, ?_⟩
            have C9 : ∀ b o, b ≠ x → H5 b = some o → (upd H8 x (.ins CC dx (putF "_places" (.ref D2) (f4 t ga ra z)))) b = some o := fun b o nb eb => by
              rw [upd_ne nb]
              exact S8 _ _ (C7 b o nb eb)
            refine k2 hd _ (fun b o nb eb => C9 b o nb (B5 b o nb eb)) ⟨dx, t, ga, ra, z, D2, ps, upd_same, C9 _ _ (ne_of hg5 hx5 (by intro z; cases z)) hg5, C9 _ _ (ne_of hr5 hx5 (by intro z; cases z)) hr5, by rw [List.length_map]; omega, fun j a rs2 ea e2 => ?_⟩
            rw [List.getElem?_map] at e2
            cases e : ss[j]? with
            | none => rw [e] at e2; cases e2
            | some s =>
              rw [e] at e2
              have q := rows5 j a s ea e
              rw [← Option.some.inj e2]
              exact C9 _ _ (ne_of q hx5 (by intro z; cases z)) q
    | tup gs =>
      cases sr with
      | sc u =>
        refine ⟨_, (pss_cons 
  (ps_expr (pcal GK hr (passes_call (takes_of rfl rfl rfl rfl) (fun _ _ _ _ h => h)) (pa_cons (pv 1) (pa_cons (pv 2) (pa_cons (pv 3) pa_nil))))) (pss_cons 
  (ps_fld (pv 0) (pv 1) rfl) (pss_cons 
  (ps_fld (pv 0) (pe_callTy (T := "tuple") (r := rTup K) call_tuple_of (by rfl) nt (by decide +kernel) (pa_cons (pv 2) pa_nil)) rfl) (pss_cons 
  (ps_fld (pv 0) (pe_callTy (T := "tuple") (r := rTup K) call_tuple_of (by rfl) nt (by decide +kernel) (pa_cons (pe_lc (own := [("row", 4)]) (g := gName 4) (by rfl) sc_Company_init.nd (pi_list (pv 3)) (blkOk_by (own := [("row", 4)]) (N := ["self", "ties", "guests", "rows", "row", "place", "label"]) (sc := defScope s_Company_init) (by decide +kernel)) (fun _ _ _ _ _ => pg_name (i := 4) sc_Company_init.nd rfl (Or.inl rfl)) (fun _ _ _ _ _ => pts_nil) (fun _ _ _ _ _ => (pe_callTy (T := "tuple") (r := rTup K) call_tuple_of (by rfl) nt (by decide +kernel) (pa_cons (pv 4) pa_nil)))) pa_nil)) rfl) (pss_cons 
  (ps_fld (pv 0) (pcal GT hr pass0 (pa_cons (pv 1) (pa_cons (pe_fld (pv 0) rfl) pa_nil))) rfl) (pss_one 
  (ps_fld (pv 0) (pe_dc (own := [("place", 5), ("label", 6)]) (g := gTup K 2 (gCons (gName 5) (gCons (gName 6) gNil))) (by rfl) sc_Company_init.nd (pi_enumT (by rfl) ne (pa_cons (pe_fld (pv 0) rfl) pa_nil)) (blkOk_by (own := [("place", 5), ("label", 6)]) (N := ["self", "ties", "guests", "rows", "row", "place", "label"]) (sc := defScope s_Company_init) (by decide +kernel)) (fun _ _ _ _ _ => pg_tup (by rfl) (pgs_cons (pg_name (i := 5) sc_Company_init.nd rfl (Or.inl rfl)) (pgs_cons (pg_name (i := 6) sc_Company_init.nd rfl (Or.inl rfl)) pgs_nil))) (fun _ _ _ _ _ => pts_nil) (fun _ _ _ _ _ => pv 6) (fun _ _ _ _ _ => pv 5)) rfl))))))), ?_⟩
        exact ⟨_, rfl, _, rfl, _, rfl, t, ns, _, _, .tup gs, .sc u, ss, rfl, hT, hg, kg, hrr, hs, lg, k1, fun hd => nomatch (goodC_of hd).sq⟩
      | dk =>
        refine ⟨_, (pss_cons 
  (ps_expr (pcal GK hr (passes_call (takes_of rfl rfl rfl rfl) (fun _ _ _ _ h => h)) (pa_cons (pv 1) (pa_cons (pv 2) (pa_cons (pv 3) pa_nil))))) (pss_cons 
  (ps_fld (pv 0) (pv 1) rfl) (pss_cons 
  (ps_fld (pv 0) (pe_callTy (T := "tuple") (r := rTup K) call_tuple_of (by rfl) nt (by decide +kernel) (pa_cons (pv 2) pa_nil)) rfl) (pss_cons 
  (ps_fld (pv 0) (pe_callTy (T := "tuple") (r := rTup K) call_tuple_of (by rfl) nt (by decide +kernel) (pa_cons (pe_lc (own := [("row", 4)]) (g := gName 4) (by rfl) sc_Company_init.nd (pi_list (pv 3)) (blkOk_by (own := [("row", 4)]) (N := ["self", "ties", "guests", "rows", "row", "place", "label"]) (sc := defScope s_Company_init) (by decide +kernel)) (fun _ _ _ _ _ => pg_name (i := 4) sc_Company_init.nd rfl (Or.inl rfl)) (fun _ _ _ _ _ => pts_nil) (fun _ _ _ _ _ => (pe_callTy (T := "tuple") (r := rTup K) call_tuple_of (by rfl) nt (by decide +kernel) (pa_cons (pv 4) pa_nil)))) pa_nil)) rfl) (pss_cons 
  (ps_fld (pv 0) (pcal GT hr pass0 (pa_cons (pv 1) (pa_cons (pe_fld (pv 0) rfl) pa_nil))) rfl) (pss_one 
  (ps_fld (pv 0) (pe_dc (own := [("place", 5), ("label", 6)]) (g := gTup K 2 (gCons (gName 5) (gCons (gName 6) gNil))) (by rfl) sc_Company_init.nd (pi_enumT (by rfl) ne (pa_cons (pe_fld (pv 0) rfl) pa_nil)) (blkOk_by (own := [("place", 5), ("label", 6)]) (N := ["self", "ties", "guests", "rows", "row", "place", "label"]) (sc := defScope s_Company_init) (by decide +kernel)) (fun _ _ _ _ _ => pg_tup (by rfl) (pgs_cons (pg_name (i := 5) sc_Company_init.nd rfl (Or.inl rfl)) (pgs_cons (pg_name (i := 6) sc_Company_init.nd rfl (Or.inl rfl)) pgs_nil))) (fun _ _ _ _ _ => pts_nil) (fun _ _ _ _ _ => pv 6) (fun _ _ _ _ _ => pv 5)) rfl))))))), ?_⟩
        exact ⟨_, rfl, _, rfl, _, rfl, t, ns, _, _, .tup gs, .dk, ss, rfl, hT, hg, kg, hrr, hs, lg, k1, fun hd => nomatch (goodC_of hd).sq⟩
      | lst rs =>
        obtain ⟨pg, rfl, hp⟩ := hg
        obtain ⟨pr, rfl, hq⟩ := hrr
        refine ⟨_, (pss_cons 
    (ps_expr (pcal GK hr (passes_call (takes_of rfl rfl rfl rfl) (fun _ _ _ _ h => h)) (pa_cons (pv 1) (pa_cons (pv 2) (pa_cons (pv 3) pa_nil))))) (pss_cons 
    (ps_fld (pv 0) (pv 1) rfl) (pss_cons 
    (ps_fld (pv 0) (pe_callTy (T := "tuple") (r := rTup K) call_tuple_of (by rfl) nt (by decide +kernel) (pa_cons (pv 2) pa_nil)) rfl) (pss_cons 
    (ps_fld (pv 0) (pe_callTy (T := "tuple") (r := rTup K) call_tuple_of (by rfl) nt (by decide +kernel) (pa_cons (pe_lc (own := [("row", 4)]) (g := gName 4) (by rfl) sc_Company_init.nd (pi_list (pv 3)) (blkOk_by (own := [("row", 4)]) (N := ["self", "ties", "guests", "rows", "row", "place", "label"]) (sc := defScope s_Company_init) (by decide +kernel)) (fun _ _ _ _ _ => pg_name (i := 4) sc_Company_init.nd rfl (Or.inl rfl)) (fun _ _ _ _ _ => pts_nil) (fun _ _ _ _ _ => (pe_callTy (T := "tuple") (r := rTup K) call_tuple_of (by rfl) nt (by decide +kernel) (pa_cons (pv 4) pa_nil)))) pa_nil)) rfl) (pss_cons 
    (ps_fld (pv 0) (pcal GT hr pass0 (pa_cons (pv 1) (pa_cons (pe_fld (pv 0) rfl) pa_nil))) rfl) (pss_one 
    (ps_fld (pv 0) (pe_dc (own := [("place", 5), ("label", 6)]) (g := gTup K 2 (gCons (gName 5) (gCons (gName 6) gNil))) (by rfl) sc_Company_init.nd (pi_enumT (by rfl) ne (pa_cons (pe_fld (pv 0) rfl) pa_nil)) (blkOk_by (own := [("place", 5), ("label", 6)]) (N := ["self", "ties", "guests", "rows", "row", "place", "label"]) (sc := defScope s_Company_init) (by decide +kernel)) (fun _ _ _ _ _ => pg_tup (by rfl) (pgs_cons (pg_name (i := 5) sc_Company_init.nd rfl (Or.inl rfl)) (pgs_cons (pg_name (i := 6) sc_Company_init.nd rfl (Or.inl rfl)) pgs_nil))) (fun _ _ _ _ _ => pts_nil) (fun _ _ _ _ _ => pv 6) (fun _ _ _ _ _ => pv 5)) rfl))))))), ?_⟩
        refine ⟨_, rfl, _, rfl, _, rfl, t, ns, _, _, Sh.tup gs, Sh.lst rs, ss, rfl, hT, ⟨pg, rfl, hp⟩, kg, ⟨pr, rfl, hq⟩, hs, lg, k1, fun hd H1 S1 => ?_⟩
        have G := goodC_of hd
        have hx1 := S1 _ _ hx
        have hp1 := S1 _ _ hp
        have hq1 := S1 _ _ hq
        have hT1 := hT.keep S1
        have kin : ∃ is : List Int, gs = is.map V.int := G.ints
        have gle : gs.length ≤ 60 := G.le
        have rle : rs.length ≤ gs.length := G.ln
        have npg : pg ≠ x := ne_of hp hx (by intro z; cases z)
        have sl : rs.length = ss.length := hs.len
        -- self.ties
        refine ⟨_, rfl, _, rfl, x, CC, dx, [], rfl, hx1, c.cl, c.nT, (by decide), ?_⟩
        have hx2 : (upd H1 x (.ins CC dx (putF "ties" (.ref t) []))) x = some (.ins CC dx (f1 t)) := upd_same
        have B2 : ∀ b o, b ≠ x → H b = some o → (upd H1 x (.ins CC dx (putF "ties" (.ref t) []))) b = some o := fun b o nb eb => by rw [upd_ne nb]; exact S1 _ _ eb
        have hp2 := B2 _ _ npg hp
        -- self.guests
        obtain ⟨ga, ega⟩ : ∃ ga, ga = pg := ⟨pg, rfl⟩
        refine ⟨_, rfl, pg, gs, rfl, .inr ⟨SqT.of hp2, ?_⟩⟩
        refine ⟨_, rfl, x, CC, dx, _, rfl, hx2, c.cl, c.nG, l1 t, ?_⟩
        rw [← ega] at hp2 npg ⊢
        have hx3 : (upd (upd H1 x (.ins CC dx (putF "ties" (.ref t) []))) x (.ins CC dx (putF "guests" (.ref ga) (f1 t)))) x = some (.ins CC dx (f2 t ga)) := upd_same
        have hg3 : (upd (upd H1 x (.ins CC dx (putF "ties" (.ref t) []))) x (.ins CC dx (putF "guests" (.ref ga) (f1 t)))) ga = some (.tup gs) := by rw [upd_ne npg]; exact hp2
        have B3 : ∀ b o, b ≠ x → H b = some o → (upd (upd H1 x (.ins CC dx (putF "ties" (.ref t) []))) x (.ins CC dx (putF "guests" (.ref ga) (f1 t)))) b = some o := fun b o nb eb => by
          rw [upd_ne nb]
          exact B2 b o nb eb
        generalize upd (upd H1 x (.ins CC dx (putF "ties" (.ref t) []))) x (.ins CC dx (putF "guests" (.ref ga) (f1 t))) = H3 at hx3 hg3 B3
        -- self.rows
        have hq3 := B3 _ _ (ne_of hq hx (by intro z; cases z)) hq
        refine ⟨_, rfl, pr, rfl, ⟨_, SqL.of hq3⟩, fun D hD => ?_⟩
        refine lc_list (K := K) (a := pr) (xs := rs) (fun i H4 => Same H3 H4 ∧ H3 D = none ∧ ∃ ps : List Addr, ps.length = i ∧ H4 D = some (.lst (ps.map V.ref)) ∧ ∀ (j : Nat) (a : Addr) (s : Sh), ps[j]? = some a → ss[j]? = some s → H4 a = some (.tup (items s)))
          ⟨new_same hD, hD, [], rfl, upd_same, fun j a s e => nomatch e⟩ (fun i H4 _ ⟨S4, _⟩ => SqL.of (S4 _ _ hq3)) ?_ ?_
        · rintro i y H4 hy ⟨S4, D0, ps, pl, eD, hps⟩
          have hi : i < rs.length := (List.getElem?_eq_some_iff.mp hy).1
          obtain ⟨s, es, isy, _⟩ := hs.at_ hy
          obtain ⟨s', es', ew⟩ := G.row (j := i) (by show i < gs.length; omega)
          obtain rfl : s = s' := by rw [es] at es'; exact Option.some.inj es'
          obtain ⟨sq, _⟩ := rowW_good ew
          refine ⟨rfl, yesT ?_⟩
          have put : ∀ (H5 : Hp) (z : Addr), Same H4 H5 → H5 z = some (.tup (items s)) → ∃ acc : List V, H5 D = some (.lst acc) ∧ acc.length < sizeLine ∧ Same H3 (upd H5 D (.lst (acc ++ [.ref z]))) ∧ H3 D = none ∧ ∃ ps : List Addr, ps.length = i + 1 ∧ (upd H5 D (.lst (acc ++ [.ref z]))) D = some (.lst (ps.map V.ref)) ∧ ∀ (j : Nat) (a : Addr) (s : Sh), ps[j]? = some a → ss[j]? = some s → (upd H5 D (.lst (acc ++ [.ref z]))) a = some (.tup (items s)) := fun H5 z S5 ez => by
            refine ⟨_, S5 _ _ eD, by rw [List.length_map, pl]; show i < 16777216; omega, fun b o eb => ?_, D0, ps ++ [z], by rw [List.length_append, pl]; rfl, by rw [upd_same, List.map_append]; rfl, fun j a s2 ea e2 => ?_⟩
            · rw [upd_ne (ne_of_none eb D0)]
              exact S5 _ _ (S4 _ _ eb)
            · rcases Nat.lt_or_ge j ps.length with hj | hj
              · rw [List.getElem?_append_left hj] at ea
                have q := S5 _ _ (hps j a s2 ea e2)
                rw [upd_ne (ne_of q (S5 _ _ eD) (by intro z; cases z))]
                exact q
              · have hj2 : j = i := by
                  have := (List.getElem?_eq_some_iff.mp ea).1
                  rw [List.length_append] at this
                  have l : [z].length = 1 := rfl
                  omega
                subst hj2
                rw [← pl, List.getElem?_append_right (Nat.le_refl _), Nat.sub_self] at ea
                obtain rfl : z = a := Option.some.inj ea
                obtain rfl : s = s2 := by rw [es] at e2; exact Option.some.inj e2
                rw [upd_ne (ne_of ez (S5 _ _ eD) (by intro z; cases z))]
                exact ez
          cases s with
          | sc u => cases sq
          | dk => cases sq
          | lst ys =>
            obtain ⟨a, rfl, ea⟩ := isy
            refine ⟨_, rfl, a, ys, rfl, .inl ⟨SqL.of (S4 _ _ (B3 _ _ (ne_of ea hx (by intro z; cases z)) ea)), fun z hz => ?_⟩⟩
            exact put _ z (new_same hz) upd_same
          | tup ys =>
            obtain ⟨a, rfl, ea⟩ := isy
            have ea4 := S4 _ _ (B3 _ _ (ne_of ea hx (by intro z; cases z)) ea)
            exact ⟨_, rfl, a, ys, rfl, .inr ⟨SqT.of ea4, put _ a (Same.refl _) ea4⟩⟩
        · rintro H4 ⟨S4, D0, ps, pl, eD, hps⟩
          refine ⟨D, _, rfl, .inl ⟨SqL.of eD, fun ra hra => ?_⟩⟩
          have hx4 := S4 _ _ hx3
          have nra : ra ≠ x := (ne_of_none hx4 hra).symm
          refine ⟨_, rfl, x, CC, dx, _, rfl, (by rw [upd_ne nra.symm]; exact hx4), c.cl, c.nR, l2 t ga, ?_⟩
          have hx5 : (upd (upd H4 ra (.tup (ps.map V.ref))) x (.ins CC dx (putF "rows" (.ref ra) (f2 t ga)))) x = some (.ins CC dx (f3 t ga ra)) := upd_same
          have hr5 : (upd (upd H4 ra (.tup (ps.map V.ref))) x (.ins CC dx (putF "rows" (.ref ra) (f2 t ga)))) ra = some (.tup (ps.map V.ref)) := by rw [upd_ne nra, upd_same]
          have C5 : ∀ b o, b ≠ x → H4 b = some o → (upd (upd H4 ra (.tup (ps.map V.ref))) x (.ins CC dx (putF "rows" (.ref ra) (f2 t ga)))) b = some o := fun b o nb eb => by
            rw [upd_ne nb, upd_ne (ne_of_none eb hra)]
            exact eb
          generalize upd (upd H4 ra (.tup (ps.map V.ref))) x (.ins CC dx (putF "rows" (.ref ra) (f2 t ga))) = H5 at hx5 hr5 C5
          have B5 : ∀ b o, b ≠ x → H b = some o → H5 b = some o := fun b o nb eb => C5 b o nb (S4 _ _ (B3 b o nb eb))
          have hg5 := C5 _ _ (ne_of hg3 hx3 (by intro z; cases z)) (S4 _ _ hg3)
          have rows5 : ∀ (j : Nat) (a : Addr) (s : Sh), ps[j]? = some a → ss[j]? = some s → H5 a = some (.tup (items s)) := fun j a s ea e2 => by
            have q := hps j a s ea e2
            exact C5 _ _ (ne_of q hx4 (by intro z; cases z)) q
          have hT5 := hT.but hx B5
          have R5 : RowsAt H5 ra ns.length ps := ⟨hr5, fun j a ea => by
            have hj : j < ps.length := (List.getElem?_eq_some_iff.mp ea).1
            obtain ⟨s, es, ew⟩ := G.row (j := j) (by show j < gs.length; omega)
            obtain ⟨_, ts, e1, e2, e3⟩ := rowW_good ew
            exact ⟨ts, by rw [← e1]; exact rows5 j a s ea es, e2, e3⟩⟩
          -- self.table
          refine ⟨_, rfl, _, rfl, x, CC, dx, _, _, rfl, hx5, c.cl, c.nR, f3_rows t ga ra, t, ra, ns, ps, rfl, hT5, R5, by omega, fun H6 z zs S6 _ e6 => ?_⟩
          have hx6 := S6 _ _ hx5
          refine ⟨_, rfl, x, CC, dx, _, rfl, hx6, c.cl, c.nB, l3 t ga ra, ?_⟩
          have hx7 : (upd H6 x (.ins CC dx (putF "table" (.ref z) (f3 t ga ra)))) x = some (.ins CC dx (f4 t ga ra z)) := upd_same
          have C7 : ∀ b o, b ≠ x → H5 b = some o → (upd H6 x (.ins CC dx (putF "table" (.ref z) (f3 t ga ra)))) b = some o := fun b o nb eb => by
            rw [upd_ne nb]
            exact S6 _ _ eb
          generalize upd H6 x (.ins CC dx (putF "table" (.ref z) (f3 t ga ra))) = H7 at hx7 C7
          have hg7 := C7 _ _ (ne_of hg5 hx5 (by intro z; cases z)) hg5
          have hr7 := C7 _ _ (ne_of hr5 hx5 (by intro z; cases z)) hr5
          -- self._places
          refine ⟨_, rfl, x, CC, dx, _, _, rfl, hx7, c.cl, c.nG, f4_guests t ga ra z, ga, gs, rfl, SqT.of hg7, fun D2 hD2 => ?_⟩
          refine dc_enumT (K := K) (a := ga) (xs := gs) (fun i H8 => Same H7 H8 ∧ H7 D2 = none ∧ ∃ kvs : List (Key × V), kvs.length ≤ i ∧ H8 D2 = some (.dK kvs)) ⟨new_same hD2, hD2, [], Nat.le_refl _, upd_same⟩ (fun i H8 _ ⟨S8, _⟩ => SqT.of (S8 _ _ hg7)) ?_ ?_
          · rintro i y H8 T hy ⟨S8, D0', kvs, kl, eK⟩ hT8
            have hi : i < gs.length := (List.getElem?_eq_some_iff.mp hy).1
            obtain ⟨is, eis⟩ := kin
            obtain ⟨n, rfl⟩ : ∃ n, y = V.int n := by
              rw [eis, List.getElem?_map] at hy
              cases e : is[i]? with
              | none => rw [e] at hy; cases hy
              | some n => rw [e] at hy; exact ⟨n, (Option.some.inj hy).symm⟩
            refine ⟨T, _, rfl, SqT.of upd_same, rfl, _, _, rfl, _, _, rfl, rfl, rfl, yesT ?_⟩
            refine ⟨_, rfl, _, rfl, kvs, .inl n, rfl, by rw [upd_ne (ne_of_none eK hT8)]; exact eK, by show kvs.length < 16777216; omega, fun b o eb => ?_, D0', _, Nat.le_trans (length_putK _ _ _) (by omega), upd_same⟩
            rw [upd_ne (ne_of_none eb D0'), upd_ne (ne_of_none (S8 _ _ eb) hT8)]
            exact S8 _ _ eb
          · rintro H8 ⟨S8, D0', kvs, kl, eK⟩
            have hx8 := S8 _ _ hx7
            refine ⟨_, rfl, x, CC, dx, _, rfl, hx8, c.cl, c.nP, l4 t ga ra z, ?_⟩
            have C9 : ∀ b o, b ≠ x → H5 b = some o → (upd H8 x (.ins CC dx (putF "_places" (.ref D2) (f4 t ga ra z)))) b = some o := fun b o nb eb => by
              rw [upd_ne nb]
              exact S8 _ _ (C7 b o nb eb)
            refine k2 hd _ (fun b o nb eb => C9 b o nb (B5 b o nb eb)) ⟨dx, t, ga, ra, z, D2, ps, upd_same, C9 _ _ (ne_of hg5 hx5 (by intro z; cases z)) hg5, C9 _ _ (ne_of hr5 hx5 (by intro z; cases z)) hr5, by rw [List.length_map]; omega, fun j a rs2 ea e2 => ?_⟩
            rw [List.getElem?_map] at e2
            cases e : ss[j]? with
            | none => rw [e] at e2; cases e2
            | some s =>
              rw [e] at e2
              have q := rows5 j a s ea e
              rw [← Option.some.inj e2]
              exact C9 _ _ (ne_of q hx5 (by intro z; cases z)) q
      | tup rs =>
        obtain ⟨pg, rfl, hp⟩ := hg
        obtain ⟨pr, rfl, hq⟩ := hrr
        refine ⟨_, (pss_cons 
    (ps_expr (pcal GK hr (passes_call (takes_of rfl rfl rfl rfl) (fun _ _ _ _ h => h)) (pa_cons (pv 1) (pa_cons (pv 2) (pa_cons (pv 3) pa_nil))))) (pss_cons 
    (ps_fld (pv 0) (pv 1) rfl) (pss_cons 
    (ps_fld (pv 0) (pe_callTy (T := "tuple") (r := rTup K) call_tuple_of (by rfl) nt (by decide +kernel) (pa_cons (pv 2) pa_nil)) rfl) (pss_cons 
    (ps_fld (pv 0) (pe_callTy (T := "tuple") (r := rTup K) call_tuple_of (by rfl) nt (by decide +kernel) (pa_cons (pe_lc (own := [("row", 4)]) (g := gName 4) (by rfl) sc_Company_init.nd (pi_tup (pv 3)) (blkOk_by (own := [("row", 4)]) (N := ["self", "ties", "guests", "rows", "row", "place", "label"]) (sc := defScope s_Company_init) (by decide +kernel)) (fun _ _ _ _ _ => pg_name (i := 4) sc_Company_init.nd rfl (Or.inl rfl)) (fun _ _ _ _ _ => pts_nil) (fun _ _ _ _ _ => (pe_callTy (T := "tuple") (r := rTup K) call_tuple_of (by rfl) nt (by decide +kernel) (pa_cons (pv 4) pa_nil)))) pa_nil)) rfl) (pss_cons 
    (ps_fld (pv 0) (pcal GT hr pass0 (pa_cons (pv 1) (pa_cons (pe_fld (pv 0) rfl) pa_nil))) rfl) (pss_one 
    (ps_fld (pv 0) (pe_dc (own := [("place", 5), ("label", 6)]) (g := gTup K 2 (gCons (gName 5) (gCons (gName 6) gNil))) (by rfl) sc_Company_init.nd (pi_enumT (by rfl) ne (pa_cons (pe_fld (pv 0) rfl) pa_nil)) (blkOk_by (own := [("place", 5), ("label", 6)]) (N := ["self", "ties", "guests", "rows", "row", "place", "label"]) (sc := defScope s_Company_init) (by decide +kernel)) (fun _ _ _ _ _ => pg_tup (by rfl) (pgs_cons (pg_name (i := 5) sc_Company_init.nd rfl (Or.inl rfl)) (pgs_cons (pg_name (i := 6) sc_Company_init.nd rfl (Or.inl rfl)) pgs_nil))) (fun _ _ _ _ _ => pts_nil) (fun _ _ _ _ _ => pv 6) (fun _ _ _ _ _ => pv 5)) rfl))))))), ?_⟩
        refine ⟨_, rfl, _, rfl, _, rfl, t, ns, _, _, Sh.tup gs, Sh.tup rs, ss, rfl, hT, ⟨pg, rfl, hp⟩, kg, ⟨pr, rfl, hq⟩, hs, lg, k1, fun hd H1 S1 => ?_⟩
        have G := goodC_of hd
        have hx1 := S1 _ _ hx
        have hp1 := S1 _ _ hp
        have hq1 := S1 _ _ hq
        have hT1 := hT.keep S1
        have kin : ∃ is : List Int, gs = is.map V.int := G.ints
        have gle : gs.length ≤ 60 := G.le
        have rle : rs.length ≤ gs.length := G.ln
        have npg : pg ≠ x := ne_of hp hx (by intro z; cases z)
        have sl : rs.length = ss.length := hs.len
        -- self.ties
        refine ⟨_, rfl, _, rfl, x, CC, dx, [], rfl, hx1, c.cl, c.nT, (by decide), ?_⟩
        have hx2 : (upd H1 x (.ins CC dx (putF "ties" (.ref t) []))) x = some (.ins CC dx (f1 t)) := upd_same
        have B2 : ∀ b o, b ≠ x → H b = some o → (upd H1 x (.ins CC dx (putF "ties" (.ref t) []))) b = some o := fun b o nb eb => by rw [upd_ne nb]; exact S1 _ _ eb
        have hp2 := B2 _ _ npg hp
        -- self.guests
        obtain ⟨ga, ega⟩ : ∃ ga, ga = pg := ⟨pg, rfl⟩
        refine ⟨_, rfl, pg, gs, rfl, .inr ⟨SqT.of hp2, ?_⟩⟩
        refine ⟨_, rfl, x, CC, dx, _, rfl, hx2, c.cl, c.nG, l1 t, ?_⟩
        rw [← ega] at hp2 npg ⊢
        have hx3 : (upd (upd H1 x (.ins CC dx (putF "ties" (.ref t) []))) x (.ins CC dx (putF "guests" (.ref ga) (f1 t)))) x = some (.ins CC dx (f2 t ga)) := upd_same
        have hg3 : (upd (upd H1 x (.ins CC dx (putF "ties" (.ref t) []))) x (.ins CC dx (putF "guests" (.ref ga) (f1 t)))) ga = some (.tup gs) := by rw [upd_ne npg]; exact hp2
        have B3 : ∀ b o, b ≠ x → H b = some o → (upd (upd H1 x (.ins CC dx (putF "ties" (.ref t) []))) x (.ins CC dx (putF "guests" (.ref ga) (f1 t)))) b = some o := fun b o nb eb => by
          rw [upd_ne nb]
          exact B2 b o nb eb
        generalize upd (upd H1 x (.ins CC dx (putF "ties" (.ref t) []))) x (.ins CC dx (putF "guests" (.ref ga) (f1 t))) = H3 at hx3 hg3 B3
        -- self.rows
        have hq3 := B3 _ _ (ne_of hq hx (by intro z; cases z)) hq
        refine ⟨_, rfl, pr, rfl, ⟨_, SqT.of hq3⟩, fun D hD => ?_⟩
        refine lc_tup (K := K) (a := pr) (xs := rs) (fun i H4 => Same H3 H4 ∧ H3 D = none ∧ ∃ ps : List Addr, ps.length = i ∧ H4 D = some (.lst (ps.map V.ref)) ∧ ∀ (j : Nat) (a : Addr) (s : Sh), ps[j]? = some a → ss[j]? = some s → H4 a = some (.tup (items s)))
          ⟨new_same hD, hD, [], rfl, upd_same, fun j a s e => nomatch e⟩ (fun i H4 _ ⟨S4, _⟩ => SqT.of (S4 _ _ hq3)) ?_ ?_
        · rintro i y H4 hy ⟨S4, D0, ps, pl, eD, hps⟩
          have hi : i < rs.length := (List.getElem?_eq_some_iff.mp hy).1
          obtain ⟨s, es, isy, _⟩ := hs.at_ hy
          obtain ⟨s', es', ew⟩ := G.row (j := i) (by show i < gs.length; omega)
          obtain rfl : s = s' := by rw [es] at es'; exact Option.some.inj es'
          obtain ⟨sq, _⟩ := rowW_good ew
          refine ⟨rfl, yesT ?_⟩
          have put : ∀ (H5 : Hp) (z : Addr), Same H4 H5 → H5 z = some (.tup (items s)) → ∃ acc : List V, H5 D = some (.lst acc) ∧ acc.length < sizeLine ∧ Same H3 (upd H5 D (.lst (acc ++ [.ref z]))) ∧ H3 D = none ∧ ∃ ps : List Addr, ps.length = i + 1 ∧ (upd H5 D (.lst (acc ++ [.ref z]))) D = some (.lst (ps.map V.ref)) ∧ ∀ (j : Nat) (a : Addr) (s : Sh), ps[j]? = some a → ss[j]? = some s → (upd H5 D (.lst (acc ++ [.ref z]))) a = some (.tup (items s)) := fun H5 z S5 ez => by
            refine ⟨_, S5 _ _ eD, by rw [List.length_map, pl]; show i < 16777216; omega, fun b o eb => ?_, D0, ps ++ [z], by rw [List.length_append, pl]; rfl, by rw [upd_same, List.map_append]; rfl, fun j a s2 ea e2 => ?_⟩
            · rw [upd_ne (ne_of_none eb D0)]
              exact S5 _ _ (S4 _ _ eb)
            · rcases Nat.lt_or_ge j ps.length with hj | hj
              · rw [List.getElem?_append_left hj] at ea
                have q := S5 _ _ (hps j a s2 ea e2)
                rw [upd_ne (ne_of q (S5 _ _ eD) (by intro z; cases z))]
                exact q
              · have hj2 : j = i := by
                  have := (List.getElem?_eq_some_iff.mp ea).1
                  rw [List.length_append] at this
                  have l : [z].length = 1 := rfl
                  omega
                subst hj2
                rw [← pl, List.getElem?_append_right (Nat.le_refl _), Nat.sub_self] at ea
                obtain rfl : z = a := Option.some.inj ea
                obtain rfl : s = s2 := by rw [es] at e2; exact Option.some.inj e2
                rw [upd_ne (ne_of ez (S5 _ _ eD) (by intro z; cases z))]
                exact ez
          cases s with
          | sc u => cases sq
          | dk => cases sq
          | lst ys =>
            obtain ⟨a, rfl, ea⟩ := isy
            refine ⟨_, rfl, a, ys, rfl, .inl ⟨SqL.of (S4 _ _ (B3 _ _ (ne_of ea hx (by intro z; cases z)) ea)), fun z hz => ?_⟩⟩
            exact put _ z (new_same hz) upd_same
          | tup ys =>
            obtain ⟨a, rfl, ea⟩ := isy
            have ea4 := S4 _ _ (B3 _ _ (ne_of ea hx (by intro z; cases z)) ea)
            exact ⟨_, rfl, a, ys, rfl, .inr ⟨SqT.of ea4, put _ a (Same.refl _) ea4⟩⟩
        · rintro H4 ⟨S4, D0, ps, pl, eD, hps⟩
          refine ⟨D, _, rfl, .inl ⟨SqL.of eD, fun ra hra => ?_⟩⟩
          have hx4 := S4 _ _ hx3
          have nra : ra ≠ x := (ne_of_none hx4 hra).symm
          refine ⟨_, rfl, x, CC, dx, _, rfl, (by rw [upd_ne nra.symm]; exact hx4), c.cl, c.nR, l2 t ga, ?_⟩
          have hx5 : (upd (upd H4 ra (.tup (ps.map V.ref))) x (.ins CC dx (putF "rows" (.ref ra) (f2 t ga)))) x = some (.ins CC dx (f3 t ga ra)) := upd_same
          have hr5 : (upd (upd H4 ra (.tup (ps.map V.ref))) x (.ins CC dx (putF "rows" (.ref ra) (f2 t ga)))) ra = some (.tup (ps.map V.ref)) := by rw [upd_ne nra, upd_same]
          have C5 : ∀ b o, b ≠ x → H4 b = some o → (upd (upd H4 ra (.tup (ps.map V.ref))) x (.ins CC dx (putF "rows" (.ref ra) (f2 t ga)))) b = some o := fun b o nb eb => by
            rw [upd_ne nb, upd_ne (ne_of_none eb hra)]
            exact eb
          generalize upd (upd H4 ra (.tup (ps.map V.ref))) x (.ins CC dx (putF "rows" (.ref ra) (f2 t ga))) = H5 at hx5 hr5 C5
          have B5 : ∀ b o, b ≠ x → H b = some o → H5 b = some o := fun b o nb eb => C5 b o nb (S4 _ _ (B3 b o nb eb))
          have hg5 := C5 _ _ (ne_of hg3 hx3 (by intro z; cases z)) (S4 _ _ hg3)
          have rows5 : ∀ (j : Nat) (a : Addr) (s : Sh), ps[j]? = some a → ss[j]? = some s → H5 a = some (.tup (items s)) := fun j a s ea e2 => by
            have q := hps j a s ea e2
            exact C5 _ _ (ne_of q hx4 (by intro z; cases z)) q
          have hT5 := hT.but hx B5
          have R5 : RowsAt H5 ra ns.length ps := ⟨hr5, fun j a ea => by
            have hj : j < ps.length := (List.getElem?_eq_some_iff.mp ea).1
            obtain ⟨s, es, ew⟩ := G.row (j := j) (by show j < gs.length; omega)
            obtain ⟨_, ts, e1, e2, e3⟩ := rowW_good ew
            exact ⟨ts, by rw [← e1]; exact rows5 j a s ea es, e2, e3⟩⟩
          -- self.table
          refine ⟨_, rfl, _, rfl, x, CC, dx, _, _, rfl, hx5, c.cl, c.nR, f3_rows t ga ra, t, ra, ns, ps, rfl, hT5, R5, by omega, fun H6 z zs S6 _ e6 => ?_⟩
          have hx6 := S6 _ _ hx5
          refine ⟨_, rfl, x, CC, dx, _, rfl, hx6, c.cl, c.nB, l3 t ga ra, ?_⟩
          have hx7 : (upd H6 x (.ins CC dx (putF "table" (.ref z) (f3 t ga ra)))) x = some (.ins CC dx (f4 t ga ra z)) := upd_same
          have C7 : ∀ b o, b ≠ x → H5 b = some o → (upd H6 x (.ins CC dx (putF "table" (.ref z) (f3 t ga ra)))) b = some o := fun b o nb eb => by
            rw [upd_ne nb]
            exact S6 _ _ eb
          generalize upd H6 x (.ins CC dx (putF "table" (.ref z) (f3 t ga ra))) = H7 at hx7 C7
          have hg7 := C7 _ _ (ne_of hg5 hx5 (by intro z; cases z)) hg5
          have hr7 := C7 _ _ (ne_of hr5 hx5 (by intro z; cases z)) hr5
          -- self._places
          refine ⟨_, rfl, x, CC, dx, _, _, rfl, hx7, c.cl, c.nG, f4_guests t ga ra z, ga, gs, rfl, SqT.of hg7, fun D2 hD2 => ?_⟩
          refine dc_enumT (K := K) (a := ga) (xs := gs) (fun i H8 => Same H7 H8 ∧ H7 D2 = none ∧ ∃ kvs : List (Key × V), kvs.length ≤ i ∧ H8 D2 = some (.dK kvs)) ⟨new_same hD2, hD2, [], Nat.le_refl _, upd_same⟩ (fun i H8 _ ⟨S8, _⟩ => SqT.of (S8 _ _ hg7)) ?_ ?_
          · rintro i y H8 T hy ⟨S8, D0', kvs, kl, eK⟩ hT8
            have hi : i < gs.length := (List.getElem?_eq_some_iff.mp hy).1
            obtain ⟨is, eis⟩ := kin
            obtain ⟨n, rfl⟩ : ∃ n, y = V.int n := by
              rw [eis, List.getElem?_map] at hy
              cases e : is[i]? with
              | none => rw [e] at hy; cases hy
              | some n => rw [e] at hy; exact ⟨n, (Option.some.inj hy).symm⟩
            refine ⟨T, _, rfl, SqT.of upd_same, rfl, _, _, rfl, _, _, rfl, rfl, rfl, yesT ?_⟩
            refine ⟨_, rfl, _, rfl, kvs, .inl n, rfl, by rw [upd_ne (ne_of_none eK hT8)]; exact eK, by show kvs.length < 16777216; omega, fun b o eb => ?_, D0', _, Nat.le_trans (length_putK _ _ _) (by omega), upd_same⟩
            rw [upd_ne (ne_of_none eb D0'), upd_ne (ne_of_none (S8 _ _ eb) hT8)]
            exact S8 _ _ eb
          · rintro H8 ⟨S8, D0', kvs, kl, eK⟩
            have hx8 := S8 _ _ hx7
            refine ⟨_, rfl, x, CC, dx, _, rfl, hx8, c.cl, c.nP, l4 t ga ra z, ?_⟩
            have C9 : ∀ b o, b ≠ x → H5 b = some o → (upd H8 x (.ins CC dx (putF "_places" (.ref D2) (f4 t ga ra z)))) b = some o := fun b o nb eb => by
              rw [upd_ne nb]
              exact S8 _ _ (C7 b o nb eb)
            refine k2 hd _ (fun b o nb eb => C9 b o nb (B5 b o nb eb)) ⟨dx, t, ga, ra, z, D2, ps, upd_same, C9 _ _ (ne_of hg5 hx5 (by intro z; cases z)) hg5, C9 _ _ (ne_of hr5 hx5 (by intro z; cases z)) hr5, by rw [List.length_map]; omega, fun j a rs2 ea e2 => ?_⟩
            rw [List.getElem?_map] at e2
            cases e : ss[j]? with
            | none => rw [e] at e2; cases e2
            | some s =>
              rw [e] at e2
              have q := rows5 j a s ea e
              rw [← Option.some.inj e2]
              exact C9 _ _ (ne_of q hx5 (by intro z; cases z)) q
end
end J

set_option Elab.async false
set_option linter.all false
set_option maxRecDepth 100000
set_option maxHeartbeats 2000000
namespace J
open PySem PySem.Spec PyProof.Rows L2
/-! ### != of two lists that are equal: plain items, the same object, or tuples of the same plain items -/
def SameV (K : PySem.W.Frag) (H : Hp) (u v : V) : Prop := (u = v ∧ flatB u = true) ∨ (∃ c, u = .ref c ∧ v = .ref c) ∨ ∃ a b xs, u = .ref a ∧ v = .ref b ∧ SqT K H a xs ∧ SqT K H b xs ∧ ∀ x ∈ xs, flatB x = true
theorem paired_at {α β : Type} {R : α → β → Prop} : ∀ {xs : List α} {ys : List β}, Paired R xs ys → ∀ (j : Nat) (h1 : j < xs.length) (h2 : j < ys.length), R xs[j] ys[j]
  | _, _, .nil, _, h, _ => absurd h (Nat.not_lt_zero _)
  | _, _, .cons h _, 0, _, _ => h
  | _, _, .cons _ t, j + 1, h1, h2 => paired_at t j (Nat.lt_of_succ_lt_succ h1) (Nat.lt_of_succ_lt_succ h2)
section
variable {X : Cx} {pins : List (Addr × Obj)} {σ : L2.St} {H : Hp} {s : Shared}
theorem tuples_run (I : Inv X pins σ H s) {A : Around} (hu : A.units + 1 < cLine) {a b : Addr} {xs : List V} (ha : SqT X.K H a xs) (hb : SqT X.K H b xs) (hx : ∀ x ∈ xs, flatB x = true) : SeqAt.EqAt A s (.ref a) (.ref b) true := by
  obtain ⟨us, r1, p1, _⟩ := I.tuple ha
  obtain ⟨ws, r2, p2, _⟩ := I.tuple hb
  by_cases e : a = b
  · subst e
    exact SeqAt.EqAt.same _
  · have l1 := r1.length
    have l2 := r2.length
    have q := SeqAt.RcAt.tuples (A := A) (e := fun _ => true) p1 p2 (by omega) (fun j h1 h2 => by
      have j1 : j < us.length := by simpa using h1
      have j2 : j < ws.length := by simpa using h2
      have jx : j < xs.length := by omega
      obtain ⟨u, eu, ru⟩ := r1.get (List.getElem?_eq_getElem jx)
      obtain ⟨v, ev, rv⟩ := r2.get (List.getElem?_eq_getElem jx)
      have e1 : us.toArray[j] = u := by
        have := List.getElem?_eq_getElem j1
        rw [eu] at this
        simpa using (Option.some.inj this).symm
      have e2 : ws.toArray[j] = v := by
        have := List.getElem?_eq_getElem j2
        rw [ev] at this
        simpa using (Option.some.inj this).symm
      rw [e1, e2]
      exact eqAt_same ru rv (hx _ (List.getElem_mem jx)))
    refine SeqAt.EqAt.of_refs e ?_
    have hsz : us.toArray.size = ws.toArray.size := by simp; omega
    rw [show ((List.range (min us.toArray.size ws.toArray.size)).all fun _ => true) = true from List.all_eq_true.mpr fun _ _ => rfl, hsz] at q
    simpa using q
theorem same_run (I : Inv X pins σ H s) {A : Around} (hu : A.units + 1 < cLine) {x y : V} {u v : Value} (h : SameV X.K H x y) (ru : RelV x u) (rv : RelV y v) : SeqAt.EqAt A s u v true := by
  rcases h with ⟨rfl, f⟩ | ⟨c, rfl, rfl⟩ | ⟨a, b, xs, rfl, rfl, ha, hb, hx⟩
  · exact eqAt_same ru rv f
  · cases (show u = Value.ref c from ru)
    cases (show v = Value.ref c from rv)
    exact SeqAt.EqAt.same _
  · cases (show u = Value.ref a from ru)
    cases (show v = Value.ref b from rv)
    exact tuples_run I hu ha hb hx
end
def rNeL (K : PySem.W.Frag) : R2 := fun x y H Q => ∃ a b xs ys, x = .ref a ∧ y = .ref b ∧ SqL K H a xs ∧ SqL K H b ys ∧ Paired (SameV K H) xs ys ∧ Q (.bl false) H
theorem op_neL {X : Cx} (hu : X.A.units + 64 < cLine) : OpR X (compareOp .NotEq) (rNeL X.K) := by
  intro pins s σ H x y v u Q I rx ry ⟨a, b, xs, ys, ex, ey, ha, hb, hp, q⟩
  subst ex
  subst ey
  obtain rfl : v = Value.ref a := rx
  obtain rfl : u = Value.ref b := ry
  obtain ⟨us, r1, p1, _⟩ := I.list ha
  obtain ⟨ws, r2, p2, _⟩ := I.list hb
  have l1 := r1.length
  have l2 := r2.length
  have l3 := Paired.length hp
  have hsz : us.toArray.size = ws.toArray.size := by simp; omega
  have he : ∀ j (h1 : j < us.toArray.size) (h2 : j < ws.toArray.size), SeqAt.EqAt X.A.in1 s us.toArray[j] ws.toArray[j] true := fun j h1 h2 => by
    have j1 : j < us.length := by simpa using h1
    have j2 : j < ws.length := by simpa using h2
    have jx : j < xs.length := by omega
    have jy : j < ys.length := by omega
    obtain ⟨z, ez, rz⟩ := r1.get (List.getElem?_eq_getElem jx)
    obtain ⟨t, et, rt⟩ := r2.get (List.getElem?_eq_getElem jy)
    have e1 : us.toArray[j] = z := by
      have := List.getElem?_eq_getElem j1
      rw [ez] at this
      simpa using (Option.some.inj this).symm
    have e2 : ws.toArray[j] = t := by
      have := List.getElem?_eq_getElem j2
      rw [et] at this
      simpa using (Option.some.inj this).symm
    rw [e1, e2]
    have pj : SameV X.K H xs[j] ys[j] := paired_at hp j jx jy
    exact same_run I (A := X.A.in1) (by show X.A.units + 1 + 1 < cLine; omega) pj rz rt
  have k := SeqAt.RcNeAt.lists (A := X.A) (e := fun _ => true) p1.isList p2.isList hsz (by omega) he
  refine k X.prog X.w _ _ ?_
  rw [show ((List.range us.toArray.size).all fun _ => true) = true from List.all_eq_true.mpr fun _ _ => rfl]
  exact ⟨.bl false, H, I, rfl, q⟩
end J

set_option Elab.async false
set_option linter.all false
set_option maxRecDepth 100000
set_option maxHeartbeats 4000000
namespace J
open PySem PySem.Spec PyProof.Rows L2
/-! ### labels that are drawn -/
abbrev s_Llabels : Stmt := top 25
theorem sc_Llabels : FnScope ["_law_hand_here", "_law_many", "_law_base", "_law_step", "_law_k"] ["_law_hand_here", "_law_many"] (defScope s_Llabels) := ⟨rfl, rfl, rfl, by decide +kernel, rfl, by decide +kernel, by decide +kernel⟩
def spLabels : Sp := fun vs H Q _ => ∃ (h q : Addr) (m : Nat), vs = [.ref h, .int (m : Nat)] ∧ m ≤ 1000 ∧ Hand H h q ∧ ∀ (H' : Hp) (l : Addr) (ns : List Int), ns.length = m → But h H H' → Hand H' h q → H l = none → H' l = some (.lst (ns.map V.int)) → Q (.ref l) H'
theorem But.free {h l : Addr} {H H' : Hp} (B : But h H H') (n : l ≠ h) (e : H' l = none) : H l = none := by
  cases q : H l with
  | none => rfl
  | some o =>
    have := B _ _ n q
    rw [e] at this
    cases this
section
variable {P : Program} {w : World} {K : PySem.W.Frag} {mg : Str → Option Value} {base : Heap}
theorem ok_Llabels {f fD : Addr} {fd fdD : FuncData} (F : Fun K "_law_labels" "_law_labels" s_Llabels f fd) (nr : mg "range" = none) (nm : mg "max" = none) (GD : Cal P w K mg base CX0 2 "_law_draw" fD fdD ["_law_hand_here", "_law_many"] spDraw) : FnOk P w K mg base CX0 3 f fd ["_law_hand_here", "_law_many"] spLabels := by
  refine F.ok sc_Llabels (fun vs H Q E h => ?_) (fun cdv A outer s H vs Q E hr h => ?_)
  · obtain ⟨h, q, m, rfl, _⟩ := h
    rfl
  · obtain ⟨h, q, m, rfl, hm, hh, k⟩ := h
    refine ⟨_, (pss_cons 
  (ps_set (i := 2) sc_Llabels.nd rfl (Or.inr rfl) (pcal GD hr pass0 (pa_cons (pv 0) (pa_cons pe_int pa_nil)))) (pss_cons 
  (ps_set (i := 3) sc_Llabels.nd rfl (Or.inr rfl) pe_int) (C8.pss_cut 
  (ps_if (pt_cmpR op_eq (pcal GD hr pass0 (pa_cons (pv 0) (pa_cons pe_int pa_nil))) pe_int (nomark _)) (pss_cons 
    (ps_set (i := 2) sc_Llabels.nd rfl (Or.inr rfl) (pcal GD hr pass0 (pa_cons (pv 0) (pa_cons (pe_op op_pow pe_int pe_int) pa_nil)))) (pss_one 
    (ps_set (i := 3) sc_Llabels.nd rfl (Or.inr rfl) (pe_op op_add pe_int (pcal GD hr pass0 (pa_cons (pv 0) (pa_cons (pe_op op_fdivW (pe_op op_mul pe_int (pe_op op_pow pe_int pe_int)) (pe_callB (call_max2 rfl) (by rfl) nm (by decide +kernel) (pa_cons pe_int (pa_cons (pv 1) pa_nil)))) pa_nil))))))) pss_nil) (pss_one 
  (ps_ret (pe_lc (own := [("_law_k", 4)]) (g := gName 4) (by rfl) sc_Llabels.nd (pi_range1 (by rfl) nr (pa_cons (pv 1) pa_nil)) (blkOk_by (own := [("_law_k", 4)]) (N := ["_law_hand_here", "_law_many", "_law_base", "_law_step", "_law_k"]) (sc := defScope s_Llabels) (by decide +kernel)) (fun _ _ _ _ _ => pg_name (i := 4) sc_Llabels.nd rfl (Or.inl rfl)) (fun _ _ _ _ _ => pts_nil) (fun _ _ _ _ _ => (pe_op op_add (pv 2) (pe_op op_mul (pv 4) (pv 3)))))))))), ?_⟩
    refine ⟨_, rfl, h, q, 3, rfl, by decide, by decide, hh, fun b H1 b0 b1 B1 h1 => ⟨fun σ' H' => ∃ c d : Int, σ' = [some (.ref h), some (.int (m : Nat)), some (.int c), some (.int d), none] ∧ But h H H' ∧ Hand H' h q, ?_, ?_⟩⟩
    · refine ⟨_, rfl, h, q, 2, rfl, by decide, by decide, h1, fun z H2 z0 z1 B2 h2 => ⟨rfl, _, rfl, ?_⟩⟩
      refine ifD (fun c => ?_) (fun c => ⟨_, _, rfl, B1.trans B2, h2⟩)
      refine ⟨_, rfl, _, _, rfl, rfl, ⟨by decide, by decide, by decide⟩, h, q, _, rfl, by decide +kernel, by decide +kernel, h2, fun c2 H3 c0 c1 B3 h3 => ?_⟩
      have e9 : (10 : Int) ^ (8 : Int).toNat = 100000000 := by decide +kernel
      have mx : ∃ u : Int, (if ((m : Nat) : Int) > 1 then ((m : Nat) : Int) else 1) = u ∧ 0 < u ∧ u ≤ 1000 := by
        refine ⟨_, rfl, ?_⟩
        split <;> omega
      obtain ⟨u, eu, u0, u1⟩ := mx
      refine ⟨_, rfl, _, _, rfl, rfl, ⟨by decide, by decide, by decide⟩, _, _, rfl, rfl, .inl ⟨by decide, by decide⟩, _, rfl, _, _, rfl, ?_⟩
      rw [eu, e9]
      refine ⟨_, _, rfl, rfl, wide_div (b := 62) u0 (by omega) (by decide) (by decide), h, q, _, rfl, ?_, ?_, h3, fun c3 H4 _ _ B4 h4 => ⟨_, _, rfl, rfl, _, _, rfl, ((B1.trans B2).trans B3).trans B4, h4⟩⟩
      · have := Int.le_ediv_of_mul_le (a := 1) (b := 9 * 100000000) u0 (by omega)
        show (0 : Int) < 9 * 100000000 / u
        omega
      · have := Int.ediv_le_self (a := 9 * 100000000) u (by decide)
        show (9 * 100000000 / u : Int) < 2 ^ 62
        omega
    · rintro σ' H' ⟨c, d, rfl, B, hh'⟩
      refine ⟨_, rfl, (m : Nat), rfl, by omega, by omega, fun D hD => ?_⟩
      have nD := (hh'.h_ne hD).1
      refine lc_range (lo := 0) (n := m) (fun i H5 => ∃ zs : List Int, zs.length = i ∧ H5 D = some (.lst (zs.map V.int)) ∧ Same H' H5 ∧ H' D = none) ⟨[], rfl, upd_same, new_same hD, hD⟩ ?_ ?_
      · rintro i H5 hi ⟨zs, lz, eD, S5, D0⟩
        refine ⟨rfl, yesT ?_⟩
        refine ⟨_, rfl, _, rfl, _, rfl, _, _, rfl, rfl, .inl ⟨by omega, by omega⟩, _, _, rfl, rfl, _, eD, ?_, zs ++ [c + (0 + (i : Nat)) * d], by rw [List.length_append, lz]; rfl, by rw [upd_same, List.map_append]; rfl, fun b o e => ?_, D0⟩
        · rw [List.length_map]
          exact small1000 (by omega)
        · rw [upd_ne (ne_of_none e D0)]
          exact S5 _ _ e
      · rintro H5 ⟨zs, lz, eD, S5, D0⟩
        exact k H5 D zs lz (B.trans (But.same S5)) (hh'.keep S5) (B.free nD.symm D0) eD
end
end J

set_option Elab.async false
set_option linter.all false
set_option maxRecDepth 100000
set_option maxHeartbeats 4000000
namespace J
open PySem PySem.Spec PyProof.Rows L2
abbrev s_Lwhole : Stmt := top 26
theorem sc_Lwhole : FnScope ["_law_thing", "_law_low", "_law_high"] ["_law_thing", "_law_low", "_law_high"] (defScope s_Lwhole) := ⟨rfl, rfl, rfl, by decide +kernel, rfl, by decide +kernel, by decide +kernel⟩
def dueVal (H : Hp) : Option (Int × Str) → V → Prop
  | none, v => v = .non
  | some (i, u), v => ∃ z, v = .ref z ∧ H z = some (.tup [.int i, .str u])
abbrev s_Ldue : Stmt := top 27
theorem sc_Ldue : FnScope ["_law_many", "_law_guests", "_law_rows", "_law_j", "_law_entry"] ["_law_many", "_law_guests", "_law_rows"] (defScope s_Ldue) := ⟨rfl, rfl, rfl, by decide +kernel, rfl, by decide +kernel, by decide +kernel⟩
def spDueC : Sp := fun vs H Q _ => ∃ (m : Nat) (g r : V) (sg sr : Sh) (ss : List Sh), vs = [.int (m : Nat), g, r] ∧ Is H g sg ∧ Known H (items sg) ∧ Is H r sr ∧ ShAll H (items sr) ss ∧ sg.isT = false ∧ sr.isT = false ∧ (∀ s ∈ ss, s.isT = false) ∧ (items sg).length ≤ 1000 ∧
  ∀ (H' : Hp) (v : V), Same H H' → dueVal H' (dueC m sg sr ss) v → Q v H'
section
variable {P : Program} {w : World} {K : PySem.W.Frag} {mg : Str → Option Value} {base : Heap}
theorem ok_Lwhole {f : Addr} {fd : FuncData} (F : Fun K "_law_whole" "_law_whole" s_Lwhole f fd) (ns : mg "isinstance" = none) (ni : mg "int" = none) (nb : mg "bool" = none) : FnOk P w K mg base CX0 1 f fd ["_law_thing", "_law_low", "_law_high"] spWhole := by
  refine F.ok sc_Lwhole (fun vs H Q E h => ?_) (fun cdv A outer s H vs Q E hr h => ?_)
  · obtain ⟨x, s, lo, hi, rfl, _⟩ := h
    rfl
  · obtain ⟨x, sh, lo, hi, rfl, hx, k⟩ := h
    refine ⟨_, (pss_one 
  (ps_ret (pe_and (pe_callB call_isi (by rfl) ns (by decide +kernel) (pa_cons (pv 0) (pa_cons (pe_bltn (by rfl) ni (by decide +kernel) (v := .ty "int") rfl) pa_nil))) (pe_and (pe_not (pe_callB call_isi (by rfl) ns (by decide +kernel) (pa_cons (pv 0) (pa_cons (pe_bltn (by rfl) nb (by decide +kernel) (v := .ty "bool") rfl) pa_nil)))) (pe_and (pe_cmpR op_le (pv 1) (pv 0) (nomark _)) (pe_one (pe_cmpR op_le (pv 0) (pv 2) (nomark _)))))))), ?_⟩
    obtain ⟨t, ht, k1, k2, _⟩ := hx.ty (K := K)
    refine ⟨_, rfl, _, _, _, _, _, rfl, .ty "int", ht, kit_ty k1, _, rfl, ?_⟩
    cases e1 : sh.int with
    | true =>
      obtain ⟨i, rfl⟩ : ∃ i, sh = .sc (.int i) := by
        cases sh with
        | sc v => cases v <;> first | exact ⟨_, rfl⟩ | cases e1
        | _ => cases e1
      obtain ⟨rfl, _⟩ := hx
      refine if_tr rfl ?_
      refine ⟨_, rfl, _, _, _, _, _, rfl, .ty "bool", ht, kit_ty k2, _, rfl, _, rfl, ?_⟩
      refine if_tr rfl ?_
      refine ⟨_, rfl, _, rfl, _, _, rfl, rfl, _, rfl, ?_⟩
      by_cases c : lo ≤ i
      · refine if_tr (decide_eq_true c) ⟨_, rfl, _, rfl, _, _, rfl, rfl, ?_⟩
        have e : wholeB (.int i) lo hi = decide (i ≤ hi) := by
          show (decide (lo ≤ i) && decide (i ≤ hi)) = _
          rw [decide_eq_true c, Bool.true_and]
        rw [e] at k
        exact k
      · refine if_fa (decide_eq_false c) ?_
        have e : wholeB (.int i) lo hi = false := by
          show (decide (lo ≤ i) && decide (i ≤ hi)) = _
          rw [decide_eq_false c, Bool.false_and]
        rw [e] at k
        exact k
    | false =>
      have e : wholeB x lo hi = false := by
        cases sh with
        | sc v =>
          obtain ⟨rfl, _⟩ := hx
          cases x <;> first | rfl | cases e1
        | dk => obtain ⟨a, _, rfl, _⟩ := hx; rfl
        | lst => obtain ⟨a, rfl, _⟩ := hx; rfl
        | tup => obtain ⟨a, rfl, _⟩ := hx; rfl
      rw [e] at k
      cases e2 : sh.bl with
      | true =>
        refine if_tr rfl ?_
        refine ⟨_, rfl, _, _, _, _, _, rfl, .ty "bool", ht, kit_ty (e2 ▸ k2), _, rfl, _, rfl, ?_⟩
        exact if_fa rfl k
      | false => exact if_fa rfl k
theorem ok_Ldue {f fW : Addr} {fd fdW : FuncData} (F : Fun K "_law_due" "_law_due" s_Ldue f fd) (nl : mg "len" = none) (nt : mg "tuple" = none) (nli : mg "list" = none) (nis : mg "isinstance" = none) (nr : mg "range" = none)
    (GW : Cal P w K mg base CX0 1 "_law_whole" fW fdW ["_law_thing", "_law_low", "_law_high"] spWhole) : FnOk P w K mg base CX0 2 f fd ["_law_many", "_law_guests", "_law_rows"] spDueC := by
  refine F.ok sc_Ldue (fun vs H Q E h => ?_) (fun cdv A outer s H vs Q E hr h => ?_)
  · obtain ⟨m, g, r, sg, sr, ss, rfl, _⟩ := h
    rfl
  · obtain ⟨m, g, r, sg, sr, ss, rfl, hg, kg, hrr, hs, tg, tr, ts, lg, k⟩ := h
    refine ⟨_, (pss_cons 
  (ps_if (PW.pt (pw_or (pt_not (pt_val (pe_callB call_isiT (by rfl) nis (by decide +kernel) (pa_cons (pv 1) (pa_cons (pe_tup (pa_cons (pe_bltn (by rfl) nli (by decide +kernel) (v := .ty "list") rfl) (pa_cons (pe_bltn (by rfl) nt (by decide +kernel) (v := .ty "tuple") rfl) pa_nil))) pa_nil))))) (pw_or1 (pt_not (pt_val (pe_callB call_isiT (by rfl) nis (by decide +kernel) (pa_cons (pv 2) (pa_cons (pe_tup (pa_cons (pe_bltn (by rfl) nli (by decide +kernel) (v := .ty "list") rfl) (pa_cons (pe_bltn (by rfl) nt (by decide +kernel) (v := .ty "tuple") rfl) pa_nil))) pa_nil)))))))) (pss_one (ps_ret (pe_tup (pa_cons pe_int (pa_cons pe_str pa_nil))))) pss_nil) (pss_cons 
  (ps_if (pt_cmpR op_gt (pe_callB call_len_seq (by rfl) nl PySem.boot_len (pa_cons (pv 1) pa_nil)) pe_int (nomark _)) (pss_one (ps_ret (pe_tup (pa_cons pe_int (pa_cons pe_str pa_nil))))) pss_nil) (pss_cons 
  (ps_for PassesOwn.never rfl (pi_range1 (by rfl) nr (pa_cons (pe_callB call_len_seq (by rfl) nl PySem.boot_len (pa_cons (pv 1) pa_nil)) pa_nil)) (pg_name (i := 3) sc_Ldue.nd rfl (Or.inl rfl)) (pss_cons 
    (ps_if (pt_not (pt_val (pcal GW hr pass0 (pa_cons (pe_ix ix_list (pv 1) (pv 3) (fun _ _ => rfl)) (pa_cons pe_int (pa_cons (pe_op op_pow pe_int pe_int) pa_nil)))))) (pss_one (ps_ret (pe_tup (pa_cons (pv 3) (pa_cons pe_str pa_nil))))) pss_nil) (pss_cons 
    (ps_if (PW.pt (pw_and (pt_cmpR op_gt (pv 3) pe_int (nomark _)) (pw_and1 (pt_cmpR op_ge (pe_ix ix_list (pv 1) (pe_op op_sub (pv 3) pe_int) (fun _ _ => rfl)) (pe_ix ix_list (pv 1) (pv 3) (fun _ _ => rfl)) (nomark _))))) (pss_one (ps_ret (pe_tup (pa_cons (pv 3) (pa_cons pe_str pa_nil))))) pss_nil) (pss_cons 
    (ps_if (PW.pt (pw_or (pt_cmpR op_ge (pv 3) (pe_callB call_len_seq (by rfl) nl PySem.boot_len (pa_cons (pv 2) pa_nil)) (nomark _)) (pw_or1 (pt_not (pt_val (pe_callB call_isiT (by rfl) nis (by decide +kernel) (pa_cons (pe_ix ix_list (pv 2) (pv 3) (fun _ _ => rfl)) (pa_cons (pe_tup (pa_cons (pe_bltn (by rfl) nli (by decide +kernel) (v := .ty "list") rfl) (pa_cons (pe_bltn (by rfl) nt (by decide +kernel) (v := .ty "tuple") rfl) pa_nil))) pa_nil)))))))) (pss_one (ps_ret (pe_tup (pa_cons (pv 3) (pa_cons pe_str pa_nil))))) pss_nil) (pss_cons 
    (ps_if (pt_cmpR op_ne (pe_callB call_len_seq (by rfl) nl PySem.boot_len (pa_cons (pe_ix ix_list (pv 2) (pv 3) (fun _ _ => rfl)) pa_nil)) (pv 3) (nomark _)) (pss_one (ps_ret (pe_tup (pa_cons (pv 3) (pa_cons pe_str pa_nil))))) pss_nil) (pss_one 
    (ps_for PassesOwn.never rfl (pi_list (pe_ix ix_list (pv 2) (pv 3) (fun _ _ => rfl))) (pg_name (i := 4) sc_Ldue.nd rfl (Or.inl rfl)) (pss_one 
      (ps_if (pt_not (pt_val (pcal GW hr pass0 (pa_cons (pv 4) (pa_cons pe_int (pa_cons (pe_op op_sub (pv 0) pe_int) pa_nil)))))) (pss_one (ps_ret (pe_tup (pa_cons (pv 3) (pa_cons pe_str pa_nil))))) pss_nil))))))))) (pss_one 
  (ps_ret (pe_ifExp (pt_cmpR op_gt (pe_callB call_len_seq (by rfl) nl PySem.boot_len (pa_cons (pv 2) pa_nil)) (pe_callB call_len_seq (by rfl) nl PySem.boot_len (pa_cons (pv 1) pa_nil)) (nomark _)) (pe_tup (pa_cons (pe_callB call_len_seq (by rfl) nl PySem.boot_len (pa_cons (pv 1) pa_nil)) (pa_cons pe_str pa_nil))) pe_non)))))), ?_⟩
    have pair : ∀ (H1 H2 : Hp) (z : Addr) (i : Int) (u : Str), Same H H1 → H1 z = none → dueC m sg sr ss = some (i, u) → Q (.ref z) (upd H1 z (.tup [.int i, .str u])) := fun H1 H2 z i u S hz e => k _ _ (S.trans (new_same hz)) (by rw [e]; exact ⟨z, rfl, upd_same⟩)
    have noq : ∀ (H1 : Hp) (z : Addr), Same H H1 → H1 z = none → ((sg.isL || sg.isT) && (sr.isL || sr.isT)) = false → Q (.ref z) (upd H1 z (.tup [.int 0, .str "sequence"])) := fun H1 z S hz e => pair H1 H z _ _ S hz (due_seq e)
    refine ⟨_, rfl, (by show 2 ≤ sizeLine; decide), fun p1 hp1 => ?_⟩
    obtain ⟨t1, ht1, kk1⟩ := is_new (K := K) hg hp1
    have S1 : Same H (upd H p1 (.tup [.ty "list", .ty "tuple"])) := new_same hp1
    refine ⟨_, _, _, _, _, _, rfl, upd_same, .cons (.ty "list") (.cons (.ty "tuple") .nil), ht1, kk1, _, rfl, ?_⟩
    generalize upd H p1 (.tup [.ty "list", .ty "tuple"]) = H1 at S1
    cases sg with
    | sc u => exact iteT (iteT ⟨(by show 2 ≤ sizeLine; decide), fun z hz => noq H1 z S1 hz rfl⟩)
    | dk => exact iteT (iteT ⟨(by show 2 ≤ sizeLine; decide), fun z hz => noq H1 z S1 hz rfl⟩)
    | tup gs => cases tg
    | lst gs =>
      obtain ⟨pg, rfl, hp⟩ := hg
      refine iteF ⟨_, rfl, (by show 2 ≤ sizeLine; decide), fun p2 hp2 => ?_⟩
      obtain ⟨t2, ht2, kk2⟩ := is_new (K := K) (hrr.keep S1) hp2
      have S2 : Same H (upd H1 p2 (.tup [.ty "list", .ty "tuple"])) := S1.trans (new_same hp2)
      refine ⟨_, _, _, _, _, _, rfl, upd_same, .cons (.ty "list") (.cons (.ty "tuple") .nil), ht2, kk2, _, rfl, ?_⟩
      generalize upd H1 p2 (.tup [.ty "list", .ty "tuple"]) = H2 at S2
      cases sr with
      | sc u => exact iteT ⟨(by show 2 ≤ sizeLine; decide), fun z hz => noq H2 z S2 hz rfl⟩
      | dk => exact iteT ⟨(by show 2 ≤ sizeLine; decide), fun z hz => noq H2 z S2 hz rfl⟩
      | tup rs => cases tr
      | lst rs =>
        refine iteF ?_
        obtain ⟨pr, rfl, hq⟩ := hrr
        have both : ((((Sh.lst gs) : Sh).isL || ((Sh.lst gs) : Sh).isT) && (((Sh.lst rs) : Sh).isL || ((Sh.lst rs) : Sh).isT)) = true := rfl
        have eg := S2 _ _ hp
        have er := S2 _ _ hq
        have lg' : gs.length ≤ 1000 := lg
        have rl : rs.length = ss.length := hs.len
        refine ⟨_, rfl, pg, gs, rfl, .inl (SqL.of eg), _, _, rfl, rfl, _, rfl, ?_⟩
        refine ifD (fun c => ⟨(by show 2 ≤ sizeLine; decide), fun z hz => pair H2 H z _ _ S2 hz (due_many both (by show 60 < gs.length; omega))⟩) (fun c => ?_)
        have c60 : gs.length ≤ 60 := by omega
        refine ⟨_, rfl, pg, gs, rfl, .inl (SqL.of eg), _, rfl, by omega, by omega, for_range (lo := 0) (n := gs.length) (fun i σ H' => ∃ v3 v4 : Option V, σ = [some (.int (m : Nat)), some (.ref pg), some (.ref pr), v3, v4] ∧ Same H2 H' ∧ ∀ a, a < i → wordC m gs ss a = none)
          ⟨none, none, rfl, Same.refl _, fun a ha => absurd ha (Nat.not_lt_zero a)⟩ ?_ ?_⟩
        · rintro i σ H' hi ⟨v3, v4, rfl, S3, hb⟩
          have SA := S2.trans S3
          have eg4 := S3 _ _ eg
          have er4 := S3 _ _ er
          obtain ⟨x, hx⟩ : ∃ x, gs[i]? = some x := ⟨gs[i], List.getElem?_eq_getElem hi⟩
          obtain ⟨sx, isx⟩ := (kg.keep SA) x (List.mem_of_getElem? hx)
          have e0 : (0 + ((i : Nat) : Int)) = ((i : Nat) : Int) := by omega
          have e9 : (10 : Int) ^ (9 : Int).toNat = 1000000000 := by decide +kernel
          rw [e0]
          refine ⟨_, rfl, _, rfl, _, _, _, _, rfl, rfl, SqL.of eg4, at_of (j := i) (v := x) rfl hx, _, _, rfl, rfl, ⟨by decide, by decide, by decide⟩, x, sx, _, _, rfl, isx, _, rfl, ?_⟩
          rw [e9]
          have say : ∀ (H3 : Hp) (z : Addr) (u : Str), Same H' H3 → H3 z = none → wordC m gs ss i = some u → Q (.ref z) (upd H3 z (.tup [.int ((i : Nat) : Int), .str u])) := fun H3 z u S hz e => pair H3 H z _ _ (SA.trans S) hz (due_word both c60 hb e hi)
          have rf := Same.refl H'
          cases e : wholeB x 0 1000000000 with
          | false => exact iteT ⟨_, rfl, (by show 2 ≤ sizeLine; decide), fun z hz => say _ z _ rf hz (word_label hx e)⟩
          | true =>
            obtain ⟨b, rfl, _, _⟩ := whole_int e
            refine iteF ⟨_, rfl, _, _, rfl, rfl, _, rfl, ?_⟩
            cases i with
            | zero =>
              refine ifD (fun c => absurd c (by decide)) (fun _ => ?_)
              have o : ordB gs 0 = false := ord_zero
              refine ⟨_, rfl, _, rfl, pr, rs, rfl, .inl (SqL.of er4), _, _, rfl, rfl, _, rfl, ?_⟩
              refine ifD (fun c => iteT ⟨_, rfl, (by show 2 ≤ sizeLine; decide), fun z hz => say _ z _ rf hz (word_norow hx e o (List.getElem?_eq_none_iff.mpr (by omega)))⟩) (fun c => ?_)
              obtain ⟨y2, hz⟩ : ∃ z, rs[0]? = some z := ⟨rs[0]'(by omega), List.getElem?_eq_getElem (by omega)⟩
              obtain ⟨sz, esz, isz, knz⟩ := (hs.keep SA).at_ hz
              refine ⟨_, rfl, _, rfl, _, _, _, _, rfl, rfl, SqL.of er4, at_of (j := 0) (v := y2) rfl hz, (by show 2 ≤ sizeLine; decide), fun p3 hp3 => ?_⟩
              obtain ⟨t3, ht3, kk3⟩ := is_new (K := K) isz hp3
              have S5 : Same H' (upd H' p3 (.tup [.ty "list", .ty "tuple"])) := new_same hp3
              refine ⟨_, _, _, _, _, _, rfl, upd_same, .cons (.ty "list") (.cons (.ty "tuple") .nil), ht3, kk3, _, rfl, ?_⟩
              generalize upd H' p3 (.tup [.ty "list", .ty "tuple"]) = H5 at S5
              have wr := word_row (m := m) hx e o esz
              cases sz with
              | sc u => exact iteT ⟨_, rfl, (by show 2 ≤ sizeLine; decide), fun z hz => say _ z _ S5 hz (wr.trans (rowW_row rfl))⟩
              | dk => exact iteT ⟨_, rfl, (by show 2 ≤ sizeLine; decide), fun z hz => say _ z _ S5 hz (wr.trans (rowW_row rfl))⟩
              | tup ys => exact nomatch ts _ (List.mem_of_getElem? esz)
              | lst ys =>
                refine iteF ?_
                have er5 := S5 _ _ er4
                obtain ⟨py, rfl, ey0⟩ := isz
                have ey5 := S5 _ _ ey0
                refine ⟨_, rfl, _, rfl, _, _, _, _, rfl, rfl, SqL.of er5, at_of (j := 0) (v := .ref py) rfl hz, py, ys, rfl, .inl (SqL.of ey5), _, rfl, rfl, _, rfl, ?_⟩
                by_cases cl : ys.length = 0
                case neg => exact if_tr (by rw [decide_eq_false (fun q => cl (by injection q with q; omega))]; rfl) ⟨_, rfl, (by show 2 ≤ sizeLine; decide), fun z hz => say _ z _ S5 hz (wr.trans (rowW_length (s := .lst ys) rfl cl))⟩
                refine if_fa (by rw [decide_eq_true (by rw [cl])]; rfl) ?_
                refine ⟨_, rfl, _, rfl, _, _, _, _, rfl, rfl, SqL.of er5, at_of (j := 0) (v := .ref py) rfl hz, py, rfl, ⟨_, SqL.of ey5⟩, for_list (K := K) (a := py) (xs := ys) (fun n σ H6 => ∃ v4 : Option V, σ = [some (.int (m : Nat)), some (.ref pg), some (.ref pr), some (.int ((0 : Nat) : Int)), v4] ∧ Same H5 H6 ∧ ∀ a y, a < n → ys[a]? = some y → wholeB y 0 ((m : Nat) - 1) = true)
                  ⟨_, rfl, Same.refl _, fun a y ha => absurd ha (Nat.not_lt_zero a)⟩ (fun n σ H6 _ ⟨_, _, S6, _⟩ => S6.seq (SqL.of ey5)) ?_ ?_⟩
                · rintro n y σ H6 hy6 ⟨v4, rfl, S6, hw⟩
                  have hym := List.mem_of_getElem? hy6
                  obtain ⟨sy, isy⟩ := ((knz.keep S5).keep S6) y hym
                  refine ⟨_, rfl, _, rfl, _, _, rfl, rfl, y, sy, _, _, rfl, isy, _, rfl, ?_⟩
                  cases ew : wholeB y 0 ((m : Nat) - 1) with
                  | true =>
                    refine iteF ⟨_, rfl, S6, fun a z ha hz => ?_⟩
                    rcases Nat.lt_or_ge a n with hai | hai
                    · exact hw a z hai hz
                    · obtain rfl : a = n := by omega
                      rw [hy6] at hz
                      rw [← Option.some.inj hz]
                      exact ew
                  | false => exact iteT ⟨_, rfl, (by show 2 ≤ sizeLine; decide), fun z hz => say _ z _ (S5.trans S6) hz (wr.trans (rowW_tie (s := .lst ys) rfl cl hym ew))⟩
                · rintro σ H6 ⟨v4, rfl, S6, hw⟩
                  refine ⟨_, _, rfl, S3.trans (S5.trans S6), fun a ha => ?_⟩
                  rcases Nat.lt_or_ge a (0) with ha2 | ha2
                  · exact hb a ha2
                  · obtain rfl : a = 0 := by omega
                    rw [wr]
                    exact rowW_none (s := .lst ys) rfl cl fun y hy => by
                      obtain ⟨b, hb⟩ := List.getElem?_of_mem hy
                      exact hw b y (List.getElem?_eq_some_iff.mp hb).1 hb
            | succ i =>
              refine ifD (fun _ => ?_) (fun c => absurd (show (0 : Int) < ((i + 1 : Nat) : Int) by omega) c)
              obtain ⟨y, hy⟩ : ∃ y, gs[i]? = some y := ⟨gs[i], List.getElem?_eq_getElem (by omega)⟩
              have wi : wholeB y 0 1000000000 = true := by
                cases ey : wholeB y 0 1000000000 with
                | true => rfl
                | false =>
                  have := hb i (by omega)
                  rw [word_label hy ey] at this
                  cases this
              obtain ⟨a, rfl, _, _⟩ := whole_int wi
              have oo := ord_ints hy hx
              refine ⟨_, rfl, _, rfl, _, _, rfl, rfl, _, _, _, _, rfl, rfl, SqL.of eg4, at_of (j := i) (v := .int a) (by omega) hy, _, rfl, _, rfl, _, _, _, _, rfl, rfl, SqL.of eg4, at_of (j := i + 1) (v := .int b) rfl hx, _, _, rfl, rfl, _, rfl, ?_⟩
              refine ifD (fun c => ⟨_, rfl, (by show 2 ≤ sizeLine; decide), fun z hz => say _ z _ rf hz (word_order hx e (oo.trans (decide_eq_true c)))⟩) (fun c => ?_)
              have o : ordB gs (i + 1) = false := by
                rw [oo]
                exact decide_eq_false c
              refine ⟨_, rfl, _, rfl, pr, rs, rfl, .inl (SqL.of er4), _, _, rfl, rfl, _, rfl, ?_⟩
              refine ifD (fun c => iteT ⟨_, rfl, (by show 2 ≤ sizeLine; decide), fun z hz => say _ z _ rf hz (word_norow hx e o (List.getElem?_eq_none_iff.mpr (by omega)))⟩) (fun c => ?_)
              obtain ⟨y2, hz⟩ : ∃ z, rs[(i + 1)]? = some z := ⟨rs[(i + 1)]'(by omega), List.getElem?_eq_getElem (by omega)⟩
              obtain ⟨sz, esz, isz, knz⟩ := (hs.keep SA).at_ hz
              refine ⟨_, rfl, _, rfl, _, _, _, _, rfl, rfl, SqL.of er4, at_of (j := (i + 1)) (v := y2) rfl hz, (by show 2 ≤ sizeLine; decide), fun p3 hp3 => ?_⟩
              obtain ⟨t3, ht3, kk3⟩ := is_new (K := K) isz hp3
              have S5 : Same H' (upd H' p3 (.tup [.ty "list", .ty "tuple"])) := new_same hp3
              refine ⟨_, _, _, _, _, _, rfl, upd_same, .cons (.ty "list") (.cons (.ty "tuple") .nil), ht3, kk3, _, rfl, ?_⟩
              generalize upd H' p3 (.tup [.ty "list", .ty "tuple"]) = H5 at S5
              have wr := word_row (m := m) hx e o esz
              cases sz with
              | sc u => exact iteT ⟨_, rfl, (by show 2 ≤ sizeLine; decide), fun z hz => say _ z _ S5 hz (wr.trans (rowW_row rfl))⟩
              | dk => exact iteT ⟨_, rfl, (by show 2 ≤ sizeLine; decide), fun z hz => say _ z _ S5 hz (wr.trans (rowW_row rfl))⟩
              | tup ys => exact nomatch ts _ (List.mem_of_getElem? esz)
              | lst ys =>
                refine iteF ?_
                have er5 := S5 _ _ er4
                obtain ⟨py, rfl, ey0⟩ := isz
                have ey5 := S5 _ _ ey0
                refine ⟨_, rfl, _, rfl, _, _, _, _, rfl, rfl, SqL.of er5, at_of (j := (i + 1)) (v := .ref py) rfl hz, py, ys, rfl, .inl (SqL.of ey5), _, rfl, rfl, _, rfl, ?_⟩
                by_cases cl : ys.length = (i + 1)
                case neg => exact if_tr (by rw [decide_eq_false (fun q => cl (by injection q with q; omega))]; rfl) ⟨_, rfl, (by show 2 ≤ sizeLine; decide), fun z hz => say _ z _ S5 hz (wr.trans (rowW_length (s := .lst ys) rfl cl))⟩
                refine if_fa (by rw [decide_eq_true (by rw [cl])]; rfl) ?_
                refine ⟨_, rfl, _, rfl, _, _, _, _, rfl, rfl, SqL.of er5, at_of (j := (i + 1)) (v := .ref py) rfl hz, py, rfl, ⟨_, SqL.of ey5⟩, for_list (K := K) (a := py) (xs := ys) (fun n σ H6 => ∃ v4 : Option V, σ = [some (.int (m : Nat)), some (.ref pg), some (.ref pr), some (.int (((i + 1) : Nat) : Int)), v4] ∧ Same H5 H6 ∧ ∀ a y, a < n → ys[a]? = some y → wholeB y 0 ((m : Nat) - 1) = true)
                  ⟨_, rfl, Same.refl _, fun a y ha => absurd ha (Nat.not_lt_zero a)⟩ (fun n σ H6 _ ⟨_, _, S6, _⟩ => S6.seq (SqL.of ey5)) ?_ ?_⟩
                · rintro n y σ H6 hy6 ⟨v4, rfl, S6, hw⟩
                  have hym := List.mem_of_getElem? hy6
                  obtain ⟨sy, isy⟩ := ((knz.keep S5).keep S6) y hym
                  refine ⟨_, rfl, _, rfl, _, _, rfl, rfl, y, sy, _, _, rfl, isy, _, rfl, ?_⟩
                  cases ew : wholeB y 0 ((m : Nat) - 1) with
                  | true =>
                    refine iteF ⟨_, rfl, S6, fun a z ha hz => ?_⟩
                    rcases Nat.lt_or_ge a n with hai | hai
                    · exact hw a z hai hz
                    · obtain rfl : a = n := by omega
                      rw [hy6] at hz
                      rw [← Option.some.inj hz]
                      exact ew
                  | false => exact iteT ⟨_, rfl, (by show 2 ≤ sizeLine; decide), fun z hz => say _ z _ (S5.trans S6) hz (wr.trans (rowW_tie (s := .lst ys) rfl cl hym ew))⟩
                · rintro σ H6 ⟨v4, rfl, S6, hw⟩
                  refine ⟨_, _, rfl, S3.trans (S5.trans S6), fun a ha => ?_⟩
                  rcases Nat.lt_or_ge a ((i + 1)) with ha2 | ha2
                  · exact hb a ha2
                  · obtain rfl : a = (i + 1) := by omega
                    rw [wr]
                    exact rowW_none (s := .lst ys) rfl cl fun y hy => by
                      obtain ⟨b, hb⟩ := List.getElem?_of_mem hy
                      exact hw b y (List.getElem?_eq_some_iff.mp hb).1 hb
        · rintro σ H' ⟨v3, v4, rfl, S3, hb⟩
          have eg3 := S3 _ _ eg
          have er3 := S3 _ _ er
          have SA := S2.trans S3
          refine ⟨_, rfl, pr, rs, rfl, .inl (SqL.of er3), _, rfl, pg, gs, rfl, .inl (SqL.of eg3), _, _, rfl, rfl, _, rfl, ?_⟩
          refine ifD (fun c => ⟨_, rfl, pg, gs, rfl, .inl (SqL.of eg3), (by show 2 ≤ sizeLine; decide), fun z hz => pair H' H z _ _ SA hz (due_rows both c60 hb (by show gs.length < rs.length; omega))⟩) (fun c => ?_)
          exact k _ _ SA (by rw [due_ok both c60 hb (by show ¬ gs.length < rs.length; omega)]; rfl)
end
end J

set_option Elab.async false
set_option linter.all false
set_option maxRecDepth 100000
set_option maxHeartbeats 4000000
namespace J
open PySem PySem.Spec PyProof.Rows L2
/-! ### what stands in spoilt guests and rows -/
def GEl (H : Hp) (ex : Addr → Prop) (x : V) : Prop := isSc x = true ∨ ∃ a, x = .ref a ∧ ¬ ex a ∧ H a = some (.tup [.int 1])
def REl (H : Hp) (ex : Addr → Prop) (B : Nat) (x : V) : Prop := isSc x = true ∨ ∃ a, x = .ref a ∧ ¬ ex a ∧ ((∃ ys : List V, H a = some (.lst ys) ∧ (∀ y ∈ ys, isSc y = true) ∧ ys.length ≤ B) ∨ ∃ kvs, H a = some (.dK kvs))
def Fr (ex : Addr → Prop) (H H' : Hp) : Prop := ∀ b o, ¬ ex b → H b = some o → H' b = some o
theorem Fr.refl (ex : Addr → Prop) (H : Hp) : Fr ex H H := fun _ _ _ e => e
theorem Fr.trans {ex : Addr → Prop} {H H1 H2 : Hp} (a : Fr ex H H1) (b : Fr ex H1 H2) : Fr ex H H2 := fun c o n e => b c o n (a c o n e)
theorem Fr.same {ex : Addr → Prop} {H H' : Hp} (S : Same H H') : Fr ex H H' := fun c o _ e => S c o e
theorem Fr.but {ex : Addr → Prop} {h : Addr} {H H' : Hp} (B : But h H H') (e : ex h) : Fr ex H H' := fun c o n q => B c o (fun z => n (z ▸ e)) q
theorem Fr.put {ex : Addr → Prop} {H : Hp} {l : Addr} {o : HO} (e : ex l) : Fr ex H (upd H l o) := fun c u n q => by rw [upd_ne (fun z => n (by rw [z]; exact e))]; exact q
theorem GEl.fr {H H' : Hp} {ex : Addr → Prop} {x : V} (g : GEl H ex x) (F : Fr ex H H') : GEl H' ex x := by
  rcases g with g | ⟨a, e, n, h⟩
  · exact .inl g
  · exact .inr ⟨a, e, n, F _ _ n h⟩
theorem REl.le {H : Hp} {ex : Addr → Prop} {B C : Nat} {x : V} (g : REl H ex B x) (h : B ≤ C) : REl H ex C x := by
  rcases g with g | ⟨a, e, n, ⟨ys, e2, q, l⟩ | ⟨kvs, e2⟩⟩
  · exact .inl g
  · exact .inr ⟨a, e, n, .inl ⟨ys, e2, q, Nat.le_trans l h⟩⟩
  · exact .inr ⟨a, e, n, .inr ⟨kvs, e2⟩⟩
theorem REl.fr {H H' : Hp} {ex : Addr → Prop} {B : Nat} {x : V} (g : REl H ex B x) (F : Fr ex H H') : REl H' ex B x := by
  rcases g with g | ⟨a, e, n, ⟨ys, h, q⟩ | ⟨kvs, h⟩⟩
  · exact .inl g
  · exact .inr ⟨a, e, n, .inl ⟨ys, F _ _ n h, q⟩⟩
  · exact .inr ⟨a, e, n, .inr ⟨kvs, F _ _ n h⟩⟩
theorem GEl.is {H : Hp} {ex : Addr → Prop} {x : V} (g : GEl H ex x) : ∃ s, Is H x s := by
  rcases g with g | ⟨a, e, n, h⟩
  · exact ⟨.sc x, rfl, g⟩
  · exact ⟨.tup _, a, e, h⟩
theorem sc_known {H : Hp} {ys : List V} (h : ∀ y ∈ ys, isSc y = true) : Known H ys := fun y hy => ⟨.sc y, rfl, h y hy⟩
theorem REl.is {H : Hp} {ex : Addr → Prop} {B : Nat} {x : V} (g : REl H ex B x) : ∃ s, (Is H x s ∧ Known H (items s)) ∧ s.isT = false := by
  rcases g with g | ⟨a, e, n, ⟨ys, h, q, _⟩ | ⟨kvs, h⟩⟩
  · exact ⟨.sc x, ⟨⟨rfl, g⟩, fun y hy => nomatch hy⟩, rfl⟩
  · exact ⟨.lst ys, ⟨⟨a, e, h⟩, sc_known q⟩, rfl⟩
  · exact ⟨.dk, ⟨⟨a, kvs, e, h⟩, fun y hy => nomatch hy⟩, rfl⟩
theorem rel_all {H : Hp} {ex : Addr → Prop} {B : Nat} : ∀ {rs : List V}, (∀ x ∈ rs, REl H ex B x) → ∃ ss, ShAll H rs ss ∧ ∀ s ∈ ss, s.isT = false
  | [], _ => ⟨[], .nil, fun s hs => nomatch hs⟩
  | x :: rs, h => by
    obtain ⟨s, i, t⟩ := (h x (List.mem_cons_self ..)).is
    obtain ⟨ss, a, b⟩ := rel_all (rs := rs) fun y hy => h y (List.mem_cons_of_mem _ hy)
    refine ⟨s :: ss, .cons i a, fun z hz => ?_⟩
    rcases List.mem_cons.mp hz with e | hz
    · rw [e]; exact t
    · exact b z hz
theorem Hand.h_at {H : Hp} {h q : Addr} (x : Hand H h q) : (∃ ys, H h = some (.lst ys)) ∧ ∃ ys, H q = some (.lst ys) := by
  obtain ⟨cs, i, r, t, e1, e2, _⟩ := x
  exact ⟨⟨_, e1⟩, ⟨_, e2⟩⟩
def odd8 (z : Addr) : List V := [.non, .bl true, .int (-1), .int (10 ^ (9 : Int).toNat + 1), .str "3", .bl false, .ref z, .int (10 ^ (40 : Int).toNat)]
theorem odd8_all (z : Addr) : ∀ y ∈ odd8 z, isSc y = true ∨ y = .ref z := by
  intro y hy
  unfold odd8 at hy
  simp only [List.mem_cons, List.not_mem_nil, or_false] at hy
  rcases hy with rfl | rfl | rfl | rfl | rfl | rfl | rfl | rfl <;> first | exact .inl rfl | exact .inr rfl
abbrev s_Lspoil_guests : Stmt := top 28
theorem sc_Lspoil_guests : FnScope ["_law_hand_here", "_law_guests", "_law_place", "_law_sort", "_law_other"] ["_law_hand_here", "_law_guests"] (defScope s_Lspoil_guests) := ⟨rfl, rfl, rfl, by decide +kernel, rfl, by decide +kernel, by decide +kernel⟩
def spSpG : Sp := fun vs H Q _ => ∃ (h l q : Addr) (ex : Addr → Prop) (gs : List V), vs = [.ref h, .ref l] ∧ Hand H h q ∧ ex h ∧ ex l ∧ l ≠ h ∧ l ≠ q ∧ (∀ a, ex a → ∃ o, H a = some o) ∧ H l = some (.lst gs) ∧ gs ≠ [] ∧ gs.length ≤ 1000 ∧ (∀ x ∈ gs, GEl H ex x) ∧
  ∀ (H' : Hp) (gs' : List V), (∀ b o, b ≠ h → b ≠ l → H b = some o → H' b = some o) → Hand H' h q → H' l = some (.lst gs') → gs'.length ≤ gs.length → (∀ x ∈ gs', GEl H' ex x) → Q .non H'
section
variable {P : Program} {w : World} {K : PySem.W.Frag} {mg : Str → Option Value} {base : Heap}
theorem ok_Lspoil_guests {f fD : Addr} {fd fdD : FuncData} (F : Fun K "_law_spoil_guests" "_law_spoil_guests" s_Lspoil_guests f fd) (nl : mg "len" = none) (GD : Cal P w K mg base CX0 2 "_law_draw" fD fdD ["_law_hand_here", "_law_many"] spDraw) : FnOk P w K mg base CX0 3 f fd ["_law_hand_here", "_law_guests"] spSpG := by
  refine F.ok sc_Lspoil_guests (fun vs H Q E h => ?_) (fun cdv A outer s H vs Q E hr h => ?_)
  · obtain ⟨h, l, q, ex, gs, rfl, _⟩ := h
    rfl
  · obtain ⟨h, l, q, ex, gs, rfl, hh, exh, exl, nlh, nlq, exa, hl, gne, gle, hg, k⟩ := h
    refine ⟨_, (pss_cons 
  (ps_set (i := 2) sc_Lspoil_guests.nd rfl (Or.inl rfl) (pcal GD hr pass0 (pa_cons (pv 0) (pa_cons (pe_callB call_len_seq (by rfl) nl PySem.boot_len (pa_cons (pv 1) pa_nil)) pa_nil)))) (pss_cons 
  (ps_set (i := 3) sc_Lspoil_guests.nd rfl (Or.inl rfl) (pcal GD hr pass0 (pa_cons (pv 0) (pa_cons pe_int pa_nil)))) (C8.pss_cut 
  (ps_if (pt_cmpR op_eq (pv 3) pe_int (nomark _)) (pss_one 
    (ps_asg (pe_ix ix_list (pe_lst (pa_cons pe_non (pa_cons pe_bl (pa_cons (pe_un un_neg pe_int) (pa_cons (pe_op op_add (pe_op op_pow pe_int pe_int) pe_int) (pa_cons pe_str (pa_cons pe_bl (pa_cons (pe_tup (pa_cons pe_int pa_nil)) (pa_cons (pe_op op_pow pe_int pe_int) pa_nil))))))))) (pcal GD hr pass0 (pa_cons (pv 0) (pa_cons pe_int pa_nil))) (fun _ _ => rfl)) (pg_sub (pv 1) (pv 2) set_list))) pss_nil) (C8.pss_cut 
  (ps_if (PW.pt (pw_and (pt_cmpR op_eq (pv 3) pe_int (nomark _)) (pw_and1 (pt_cmpR op_gt (pv 2) pe_int (nomark _))))) (pss_one 
    (ps_asg (pe_ix ix_list (pv 1) (pe_op op_sub (pv 2) pe_int) (fun _ _ => rfl)) (pg_sub (pv 1) (pv 2) set_list))) pss_nil) (C8.pss_cut 
  (ps_if (pt_cmpR op_eq (pv 3) pe_int (nomark _)) (pss_cons 
    (ps_set (i := 4) sc_Lspoil_guests.nd rfl (Or.inl rfl) (pcal GD hr pass0 (pa_cons (pv 0) (pa_cons (pe_callB call_len_seq (by rfl) nl PySem.boot_len (pa_cons (pv 1) pa_nil)) pa_nil)))) (pss_one 
    (ps_asg (pe_tup (pa_cons (pe_ix ix_list (pv 1) (pv 4) (fun _ _ => rfl)) (pa_cons (pe_ix ix_list (pv 1) (pv 2) (fun _ _ => rfl)) pa_nil))) (pg_tup (by rfl) (pgs_cons (pg_sub (pv 1) (pv 2) set_list) (pgs_cons (pg_sub (pv 1) (pv 4) set_list) pgs_nil)))))) pss_nil) (pss_one 
  (ps_if (pt_cmpR op_eq (pv 3) pe_int (nomark _)) (pss_one 
    (ps_expr (pe_bm PySem.F.plainAttrs_list PySem.F.slot_list_pop PySem.F.type_list_pop mt_popAt (pv 1) (pa_cons (pv 2) pa_nil)))) pss_nil))))))), ?_⟩
    have g0 : 0 < gs.length := List.length_pos_iff.mpr gne
    refine ⟨_, rfl, _, rfl, l, gs, rfl, .inl (SqL.of hl), h, q, _, rfl, by omega, by omega, hh, fun pl H1 pl0 pl1 B1 h1 => ⟨_, rfl, h, q, 4, rfl, by decide, by decide, h1, fun so H2 so0 so4 B2 h2 => ?_⟩⟩
    let Mid : L2.St → Hp → Prop := fun σ' H' => ∃ (v4 : Option V) (gs' : List V), σ' = [some (.ref h), some (.ref l), some (.int pl), some (.int so), v4] ∧ (∀ b o, b ≠ h → b ≠ l → H b = some o → H' b = some o) ∧ Hand H' h q ∧ H' l = some (.lst gs') ∧ gs'.length = gs.length ∧ (∀ x ∈ gs', GEl H' ex x)
    have B12 := B1.trans B2
    have m2 : Mid [some (.ref h), some (.ref l), some (.int pl), some (.int so), none] H2 := ⟨none, gs, rfl, fun b o nb _ e => B12 b o nb e, h2, B12 _ _ nlh hl, rfl, fun x hx => (hg x hx).fr (Fr.but B12 exh)⟩
    -- one element is put
    have put : ∀ (H1 H2 : Hp) (gs1 : List V) (v : V) (v4 : Option V), (∀ b o, b ≠ h → b ≠ l → H b = some o → H1 b = some o) → (∀ b o, b ≠ h → H1 b = some o → H2 b = some o) → Hand H2 h q → H1 l = some (.lst gs1) → gs1.length = gs.length → (∀ x ∈ gs1, GEl H1 ex x) → GEl H2 ex v → ∀ j, Mid [some (.ref h), some (.ref l), some (.int pl), some (.int so), v4] (upd H2 l (.lst (gs1.set j v))) := fun H1 H2 gs1 v v4 B B' hh' e1 el hg1 hv j => by
      refine ⟨v4, _, rfl, fun b o nb nb2 e => ?_, hh'.put nlh.symm nlq.symm, upd_same, by rw [List.length_set]; exact el, fun x hx => ?_⟩
      · rw [upd_ne nb2]
        exact B' b o nb (B b o nb nb2 e)
      · have F2 : Fr ex H2 (upd H2 l (.lst (gs1.set j v))) := Fr.put exl
        rcases List.mem_or_eq_of_mem_set hx with hx | rfl
        · exact ((hg1 x hx).fr (Fr.but B' exh)).fr F2
        · exact hv.fr F2
    refine ⟨Mid, ?_, ?_⟩
    · refine ⟨_, rfl, rfl, _, rfl, ?_⟩
      refine ifD (fun c => ?_) (fun c => m2)
      have so0' : so = 0 := by injection c
      refine ⟨_, rfl, _, _, rfl, rfl, ⟨by decide, by decide, by decide⟩, _, _, rfl, rfl, (by show 1 ≤ sizeLine; decide), fun z hz => ⟨_, _, rfl, rfl, ⟨by decide, by decide, by decide⟩, (by show 8 ≤ sizeLine; decide), fun p hp => ?_⟩⟩
      have Sa : Same H2 (upd H2 z (.tup [.int 1])) := new_same hz
      have ez : (upd H2 z (.tup [.int 1])) z = some (.tup [.int 1]) := upd_same
      generalize upd H2 z (.tup [.int 1]) = Ha at Sa ez hp
      have nzx : ¬ ex z := fun e => by
        obtain ⟨o, eo⟩ := exa z e
        by_cases zh : z = h
        · obtain ⟨⟨ys, ey⟩, _⟩ := h2.h_at
          rw [zh, ey] at hz
          cases hz
        · have := B12 _ _ zh eo
          rw [hz] at this
          cases this
      have Sb : Same Ha (upd Ha p (.lst (odd8 z))) := new_same hp
      have ep : (upd Ha p (.lst (odd8 z))) p = some (.lst (odd8 z)) := upd_same
      show tCons _ _ _ (upd Ha p (.lst (odd8 z))) _
      generalize upd Ha p (.lst (odd8 z)) = Hb at Sb ep
      have hb := (h2.keep Sa).keep Sb
      obtain ⟨⟨yh, eyh⟩, _⟩ := h2.h_at
      have nph : p ≠ h := (ne_of_none (Sa _ _ eyh) hp).symm
      refine ⟨_, rfl, h, q, 8, rfl, by decide, by decide, hb, fun v H3 v0 v8 b3 h3 => ?_⟩
      have ep3 := b3 _ _ nph ep
      have hv : v.toNat < (odd8 z).length := by
        show v.toNat < 8
        omega
      have hy := List.getElem?_eq_getElem hv
      have hm := odd8_all z _ (List.getElem_mem hv)
      generalize (odd8 z)[v.toNat] = y at hy hm
      have el3 := b3 _ _ nlh (Sb _ _ (Sa _ _ (B12 _ _ nlh hl)))
      have nzh : z ≠ h := fun e => by rw [e, eyh] at hz; cases hz
      have gy : GEl H3 ex y := by
        rcases hm with hm | rfl
        · exact .inl hm
        · exact .inr ⟨z, rfl, nzx, b3 _ _ nzh (Sb _ _ ez)⟩
      refine ⟨p, _, v, y, rfl, rfl, SqL.of ep3, at_of (j := v.toNat) (by omega) hy, _, rfl, _, rfl, l, gs, pl, pl.toNat, rfl, rfl, el3, ixN_at (by omega) (by omega), ?_⟩
      exact put H2 H3 gs y none (fun b o nb _ e => B12 b o nb e) (fun b o nb e => b3 b o nb (Sb _ _ (Sa _ _ e))) h3 (B12 _ _ nlh hl) rfl (fun x hx => (hg x hx).fr (Fr.but B12 exh)) gy _
    rintro σ3 H3 ⟨v4, gs3, rfl, B3, h3, e3, l3, i3⟩
    have m3 : Mid [some (.ref h), some (.ref l), some (.int pl), some (.int so), v4] H3 := ⟨v4, gs3, rfl, B3, h3, e3, l3, i3⟩
    refine ⟨Mid, ?_, ?_⟩
    · refine ⟨_, rfl, rfl, _, rfl, ?_⟩
      refine ifD (fun c => ⟨_, rfl, _, _, rfl, rfl, _, rfl, ?_⟩) (fun c => m3)
      refine ifD (fun c2 => ?_) (fun c2 => m3)
      have hj : (pl - 1).toNat < gs3.length := by omega
      refine ⟨_, rfl, _, rfl, _, _, rfl, rfl, _, _, _, _, rfl, rfl, SqL.of e3, at_of (j := (pl - 1).toNat) (by omega) (List.getElem?_eq_getElem hj), _, rfl, _, rfl, l, gs3, pl, pl.toNat, rfl, rfl, e3, ixN_at (by omega) (by omega), ?_⟩
      exact put H3 H3 gs3 _ v4 B3 (fun b o _ e => e) h3 e3 l3 i3 (i3 _ (List.getElem_mem hj)) _
    clear m3 i3 l3 e3 h3 B3
    rintro σ4 H4 ⟨v4, gs4, rfl, B4, h4, e4, l4, i4⟩
    have m4 : Mid [some (.ref h), some (.ref l), some (.int pl), some (.int so), v4] H4 := ⟨v4, gs4, rfl, B4, h4, e4, l4, i4⟩
    refine ⟨Mid, ?_, ?_⟩
    · refine ⟨_, rfl, rfl, _, rfl, ?_⟩
      refine ifD (fun c => ?_) (fun c => m4)
      refine ⟨_, rfl, _, rfl, l, gs4, rfl, .inl (SqL.of e4), h, q, _, rfl, by omega, by omega, h4, fun ot H5 ot0 ot1 b5 h5 => ?_⟩
      have e5 := b5 _ _ nlh e4
      have B5 : ∀ b o, b ≠ h → b ≠ l → H b = some o → H5 b = some o := fun b o nb nb2 e => b5 b o nb (B4 b o nb nb2 e)
      have i5 : ∀ x ∈ gs4, GEl H5 ex x := fun x hx => (i4 x hx).fr (Fr.but b5 exh)
      have ho : ot.toNat < gs4.length := by omega
      have hp : pl.toNat < gs4.length := by omega
      have mo := i5 _ (List.getElem_mem ho)
      have mp := i5 _ (List.getElem_mem hp)
      have eo := List.getElem?_eq_getElem ho
      have ep := List.getElem?_eq_getElem hp
      generalize gs4[ot.toNat] = yo at mo eo
      generalize gs4[pl.toNat] = yp at mp ep
      refine ⟨_, rfl, _, rfl, _, _, _, _, rfl, rfl, SqL.of e5, at_of (j := ot.toNat) (by omega) eo, _, rfl, _, rfl, _, _, _, _, rfl, rfl, SqL.of e5, at_of (j := pl.toNat) (by omega) ep, (by show 2 ≤ sizeLine; decide), fun z hz => ?_⟩
      have Sz : Same H5 (upd H5 z (.tup [yo, yp])) := new_same hz
      have ez : (upd H5 z (.tup [yo, yp])) z = some (.tup [yo, yp]) := upd_same
      generalize upd H5 z (.tup [yo, yp]) = H6 at Sz ez
      have e6 := Sz _ _ e5
      have m6 := put H5 H6 gs4 yo (some (.int ot)) B5 (fun b o _ e => Sz _ _ e) (h5.keep Sz) e5 l4 i5 (mo.fr (Fr.same Sz)) pl.toNat
      have mp6 := mp.fr (Fr.same (ex := ex) Sz)
      have mp7 := mp6.fr (Fr.put (H := H6) (o := .lst (gs4.set pl.toNat yo)) exl)
      refine ⟨z, _, rfl, SqT.of ez, rfl, _, _, rfl, _, rfl, _, rfl, l, gs4, pl, pl.toNat, rfl, rfl, e6, ixN_at (by omega) (by omega), ?_⟩
      generalize upd H6 l (.lst (gs4.set pl.toNat yo)) = H7 at m6 mp7
      obtain ⟨_, gs7, _, B7, h7, e7, l7, i7⟩ := m6
      refine ⟨_, _, rfl, _, rfl, _, rfl, l, gs7, ot, ot.toNat, rfl, rfl, e7, ixN_at (by omega) (by omega), rfl, ?_⟩
      exact put H7 H7 gs7 yp (some (.int ot)) B7 (fun b o _ e => e) h7 e7 l7 i7 mp7 _
    clear m4 i4 l4 e4 h4 B4
    rintro σ5 H5 ⟨v4, gs5, rfl, B5, h5, e5, l5, i5⟩
    refine ⟨_, rfl, rfl, _, rfl, ?_⟩
    refine ifD (fun c => ?_) (fun c => k H5 gs5 B5 h5 e5 (by omega) i5)
    have hp : pl.toNat < gs5.length := by omega
    refine ⟨_, rfl, .inl ⟨rfl, _, SqL.of e5⟩, _, rfl, l, gs5, pl, pl.toNat, _, rfl, rfl, e5, by omega, by omega, seq_at (by omega) (by omega), List.getElem?_eq_getElem hp, ?_⟩
    refine k _ (gs5.eraseIdx pl.toNat) (fun b o nb nb2 e => by rw [upd_ne nb2]; exact B5 b o nb nb2 e) (h5.put nlh.symm nlq.symm) upd_same (by have := List.length_eraseIdx_le gs5 pl.toNat; omega) (fun x hx => (i5 x (List.mem_of_mem_eraseIdx hx)).fr (Fr.put exl))
end
end J

set_option Elab.async false
set_option linter.all false
set_option maxRecDepth 100000
set_option maxHeartbeats 4000000
namespace J
open PySem PySem.Spec PyProof.Rows L2
def rNeE (K : PySem.W.Frag) : R2 := fun x y H Q => ∃ a b xs, x = .ref a ∧ y = .ref b ∧ SqL K H a xs ∧ SqL K H b [] ∧ Q (.bl (!xs.isEmpty)) H
theorem op_neE {X : Cx} (hu : X.A.units + 64 < cLine) : OpR X (compareOp .NotEq) (rNeE X.K) := by
  intro pins s σ H x y v u Q I rx ry ⟨a, b, xs, ex, ey, ha, hb, q⟩
  subst ex
  subst ey
  obtain rfl : v = Value.ref a := rx
  obtain rfl : u = Value.ref b := ry
  obtain ⟨us, r1, p1, _⟩ := I.list ha
  obtain ⟨ws, r2, p2, _⟩ := I.list hb
  have l1 := r1.length
  have l2 : 0 = ws.length := r2.length
  cases xs with
  | nil =>
    have l1 : 0 = us.length := l1
    have k := SeqAt.RcNeAt.lists (A := X.A) (e := fun _ => true) p1.isList p2.isList (by simp; omega) (by omega) (fun j h1 h2 => absurd h1 (by simp; omega))
    refine k X.prog X.w _ _ ?_
    rw [show ((List.range us.toArray.size).all fun _ => true) = true from List.all_eq_true.mpr fun _ _ => rfl]
    exact ⟨.bl false, H, I, rfl, q⟩
  | cons x xs =>
    have l1 : xs.length + 1 = us.length := l1
    have k := SeqAt.RcNeAt.lists_lengths (A := X.A) p1.isList p2.isList (by simp; omega) (by omega)
    exact k X.prog X.w _ _ ⟨.bl true, H, I, rfl, q⟩
abbrev s_Lspoil_rows : Stmt := top 29
theorem sc_Lspoil_rows : FnScope ["_law_hand_here", "_law_many", "_law_rows", "_law_place", "_law_sort", "_law_row"] ["_law_hand_here", "_law_many", "_law_rows"] (defScope s_Lspoil_rows) := ⟨rfl, rfl, rfl, by decide +kernel, rfl, by decide +kernel, by decide +kernel⟩
def spSpR : Sp := fun vs H Q _ => ∃ (h l q : Addr) (m : Int) (ex : Addr → Prop) (B : Nat) (rs : List V), vs = [.ref h, .int m, .ref l] ∧ Hand H h q ∧ ex h ∧ ex l ∧ l ≠ h ∧ l ≠ q ∧ (∀ a, ex a → ∃ o, H a = some o) ∧ H l = some (.lst rs) ∧ rs ≠ [] ∧ rs.length ≤ 900 ∧ 8 ≤ B ∧ B ≤ 900 ∧ (∀ x ∈ rs, REl H ex B x) ∧
  ∀ (H' : Hp) (rs' : List V), (∀ b o, b ≠ h → b ≠ l → H b = some o → H' b = some o) → Hand H' h q → H' l = some (.lst rs') → rs'.length ≤ rs.length + 1 → (∀ x ∈ rs', REl H' ex (B + 1) x) → Q .non H'
def odd5 (z : Addr) : List V := [.non, .str "01", .int 3, .bl true, .ref z]
theorem odd5_all (z : Addr) : ∀ y ∈ odd5 z, isSc y = true ∨ y = .ref z := by
  intro y hy
  unfold odd5 at hy
  simp only [List.mem_cons, List.not_mem_nil, or_false] at hy
  rcases hy with rfl | rfl | rfl | rfl | rfl <;> first | exact .inl rfl | exact .inr rfl
def odd7 (m : Int) : List V := [.int m, .int (-1), .bl true, .non, .str "0", .bl false, .int (10 ^ (30 : Int).toNat)]
theorem odd7_all (m : Int) : ∀ y ∈ odd7 m, isSc y = true := by
  intro y hy
  unfold odd7 at hy
  simp only [List.mem_cons, List.not_mem_nil, or_false] at hy
  rcases hy with rfl | rfl | rfl | rfl | rfl | rfl | rfl <;> rfl
theorem Hand.same_h {H : Hp} {h q z : Addr} (x : Hand H h q) (hz : H z = none) : z ≠ h ∧ z ≠ q := ⟨fun e => (x.h_ne hz).1 e.symm, fun e => (x.h_ne hz).2 e.symm⟩
theorem flat0 (n : Nat) : (List.replicate n [V.int 0]).flatten = List.replicate n (V.int 0) := by
  induction n with
  | zero => rfl
  | succ n ih => rw [List.replicate_succ, List.flatten_cons, ih, List.replicate_succ]; rfl
section
variable {P : Program} {w : World} {K : PySem.W.Frag} {mg : Str → Option Value} {base : Heap}
theorem ok_Lspoil_rows {f fD : Addr} {fd fdD : FuncData} (F : Fun K "_law_spoil_rows" "_law_spoil_rows" s_Lspoil_rows f fd) (nl : mg "len" = none) (nis : mg "isinstance" = none) (nli : mg "list" = none) (GD : Cal P w K mg base CX0 2 "_law_draw" fD fdD ["_law_hand_here", "_law_many"] spDraw) : FnOk P w K mg base CX0 3 f fd ["_law_hand_here", "_law_many", "_law_rows"] spSpR := by
  refine F.ok sc_Lspoil_rows (fun vs H Q E h => ?_) (fun cdv A outer s H vs Q E hr h => ?_)
  · obtain ⟨h, l, q, m, ex, B, rs, rfl, _⟩ := h
    rfl
  · obtain ⟨h, l, q, m, ex, Bd, rs, rfl, hh, exh, exl, nlh, nlq, exa, hl, rne, rle, Bd8, Bd9, hg, k⟩ := h
    refine ⟨_, (pss_cons 
  (ps_set (i := 3) sc_Lspoil_rows.nd rfl (Or.inl rfl) (pcal GD hr pass0 (pa_cons (pv 0) (pa_cons (pe_callB call_len_seq (by rfl) nl PySem.boot_len (pa_cons (pv 2) pa_nil)) pa_nil)))) (pss_cons 
  (ps_set (i := 4) sc_Lspoil_rows.nd rfl (Or.inl rfl) (pcal GD hr pass0 (pa_cons (pv 0) (pa_cons pe_int pa_nil)))) (C8.pss_cut 
  (ps_if (pt_cmpR op_eq (pv 4) pe_int (nomark _)) (pss_one 
    (ps_asg (pe_ix ix_list (pe_lst (pa_cons pe_non (pa_cons pe_str (pa_cons pe_int (pa_cons pe_bl (pa_cons pe_dnewK pa_nil)))))) (pcal GD hr pass0 (pa_cons (pv 0) (pa_cons pe_int pa_nil))) (fun _ _ => rfl)) (pg_sub (pv 2) (pv 3) set_list))) pss_nil) (C8.pss_cut 
  (ps_if (pt_cmpR op_eq (pv 4) pe_int (nomark _)) (pss_one 
    (ps_expr (pe_bm PySem.F.plainAttrs_list PySem.F.slot_list_pop PySem.F.type_list_pop mt_popAt (pv 2) (pa_cons (pv 3) pa_nil)))) pss_nil) (C8.pss_cut 
  (ps_if (pt_cmpR op_eq (pv 4) pe_int (nomark _)) (pss_one 
    (ps_expr (pe_bm PySem.F.plainAttrs_list PySem.F.slot_list_append PySem.F.type_list_append mt_append (pv 2) (pa_cons (pe_op op_rep (pe_lst (pa_cons pe_int pa_nil)) (pcal GD hr pass0 (pa_cons (pv 0) (pa_cons pe_int pa_nil)))) pa_nil)))) pss_nil) (C8.pss_cut 
  (ps_if (PW.pt (pw_and (pt_cmpR op_eq (pv 4) pe_int (nomark _)) (pw_and1 (pt_val (pe_callB call_isi (by rfl) nis (by decide +kernel) (pa_cons (pe_ix ix_list (pv 2) (pv 3) (fun _ _ => rfl)) (pa_cons (pe_bltn (by rfl) nli (by decide +kernel) (v := .ty "list") rfl) pa_nil))))))) (pss_one 
    (ps_asg (pe_op op_cat (pe_ix ix_list (pv 2) (pv 3) (fun _ _ => rfl)) (pe_lst (pa_cons pe_int pa_nil))) (pg_sub (pv 2) (pv 3) set_list))) pss_nil) (pss_one 
  (ps_if (PW.pt (pw_and (pt_cmpR op_eq (pv 4) pe_int (nomark _)) (pw_and (pt_val (pe_callB call_isi (by rfl) nis (by decide +kernel) (pa_cons (pe_ix ix_list (pv 2) (pv 3) (fun _ _ => rfl)) (pa_cons (pe_bltn (by rfl) nli (by decide +kernel) (v := .ty "list") rfl) pa_nil)))) (pw_and1 (pt_cmpR (op_neE hr.units) (pe_ix ix_list (pv 2) (pv 3) (fun _ _ => rfl)) (pe_lst pa_nil) (nomark _)))))) (pss_cons 
    (ps_set (i := 5) sc_Lspoil_rows.nd rfl (Or.inl rfl) (pe_callTy call_list_of (by rfl) nli (by decide +kernel) (pa_cons (pe_ix ix_list (pv 2) (pv 3) (fun _ _ => rfl)) pa_nil))) (pss_cons 
    (ps_asg (pe_ix ix_list (pe_lst (pa_cons (pv 1) (pa_cons (pe_un un_neg pe_int) (pa_cons pe_bl (pa_cons pe_non (pa_cons pe_str (pa_cons pe_bl (pa_cons (pe_op op_pow pe_int pe_int) pa_nil)))))))) (pcal GD hr pass0 (pa_cons (pv 0) (pa_cons pe_int pa_nil))) (fun _ _ => rfl)) (pg_sub (pv 5) (pcal GD hr pass0 (pa_cons (pv 0) (pa_cons (pe_callB call_len_seq (by rfl) nl PySem.boot_len (pa_cons (pv 5) pa_nil)) pa_nil))) set_list)) (pss_one 
    (ps_asg (pv 5) (pg_sub (pv 2) (pv 3) set_list))))) pss_nil)))))))), ?_⟩
    have g0 : 0 < rs.length := List.length_pos_iff.mpr rne
    refine ⟨_, rfl, _, rfl, l, rs, rfl, .inl (SqL.of hl), h, q, _, rfl, by omega, by omega, hh, fun pl H1 pl0 pl1 B1 h1 => ⟨_, rfl, h, q, 5, rfl, by decide, by decide, h1, fun so H2 so0 so5 B2 h2 => ?_⟩⟩
    have fresh : ∀ (H' : Hp) (z : Addr), (∀ b o, b ≠ h → b ≠ l → H b = some o → H' b = some o) → Hand H' h q → (∃ ys, H' l = some (.lst ys)) → H' z = none → ¬ ex z := fun H' z B hh' ⟨ys, el⟩ hz e => by
      obtain ⟨o, eo⟩ := exa z e
      obtain ⟨n1, _⟩ := hh'.same_h hz
      have n2 : z ≠ l := fun q => by rw [q, el] at hz; cases hz
      have := B z o n1 n2 eo
      rw [hz] at this
      cases this
    let Mid : Nat → Nat → Bool → L2.St → Hp → Prop := fun b c pp σ' H' => ∃ (v5 : Option V) (rs' : List V), σ' = [some (.ref h), some (.int m), some (.ref l), some (.int pl), some (.int so), v5] ∧ (∀ b o, b ≠ h → b ≠ l → H b = some o → H' b = some o) ∧ Hand H' h q ∧ H' l = some (.lst rs') ∧ rs'.length ≤ rs.length + c ∧ ((pp = true → so ≠ 1) → rs.length ≤ rs'.length) ∧ (∀ x ∈ rs', REl H' ex b x)
    have B12 := B1.trans B2
    have m2 : Mid Bd 0 false [some (.ref h), some (.int m), some (.ref l), some (.int pl), some (.int so), none] H2 := ⟨none, rs, rfl, fun b o nb _ e => B12 b o nb e, h2, B12 _ _ nlh hl, Nat.le_refl _, fun _ => Nat.le_refl _, fun x hx => (hg x hx).fr (Fr.but B12 exh)⟩
    -- one element is put
    have put : ∀ (b c : Nat) (pp : Bool) (H1 H2 : Hp) (rs1 : List V) (v : V) (v5 : Option V), (∀ b o, b ≠ h → b ≠ l → H b = some o → H1 b = some o) → (∀ b o, b ≠ h → H1 b = some o → H2 b = some o) → Hand H2 h q → rs1.length ≤ rs.length + c → ((pp = true → so ≠ 1) → rs.length ≤ rs1.length) → (∀ x ∈ rs1, REl H1 ex b x) → REl H2 ex b v → ∀ j, Mid b c pp [some (.ref h), some (.int m), some (.ref l), some (.int pl), some (.int so), v5] (upd H2 l (.lst (rs1.set j v))) := fun b c pp H1 H2 rs1 v v5 B B' hh' el er hg1 hv j => by
      refine ⟨v5, _, rfl, fun b o nb nb2 e => ?_, hh'.put nlh.symm nlq.symm, upd_same, by rw [List.length_set]; exact el, by rw [List.length_set]; exact er, fun x hx => ?_⟩
      · rw [upd_ne nb2]
        exact B' b o nb (B b o nb nb2 e)
      · have F2 : Fr ex H2 (upd H2 l (.lst (rs1.set j v))) := Fr.put exl
        rcases List.mem_or_eq_of_mem_set hx with hx | rfl
        · exact ((hg1 x hx).fr (Fr.but B' exh)).fr F2
        · exact hv.fr F2
    refine ⟨Mid Bd 0 false, ?_, ?_⟩
    · refine ⟨_, rfl, rfl, _, rfl, ?_⟩
      refine ifD (fun c => ?_) (fun c => m2)
      refine fun z hz => ⟨(by show 5 ≤ sizeLine; decide), fun p hp => ?_⟩
      have Sa : Same H2 (upd H2 z (.dK [])) := new_same hz
      have ez : (upd H2 z (.dK [])) z = some (.dK []) := upd_same
      have nzx : ¬ ex z := fresh H2 z (fun b o nb _ e => B12 b o nb e) h2 ⟨_, B12 _ _ nlh hl⟩ hz
      generalize upd H2 z (.dK []) = Ha at Sa ez hp
      have Sb : Same Ha (upd Ha p (.lst (odd5 z))) := new_same hp
      have ep : (upd Ha p (.lst (odd5 z))) p = some (.lst (odd5 z)) := upd_same
      show tCons _ _ _ (upd Ha p (.lst (odd5 z))) _
      generalize upd Ha p (.lst (odd5 z)) = Hb at Sb ep
      have hb := (h2.keep Sa).keep Sb
      have nph : p ≠ h := ((h2.keep Sa).same_h hp).1
      refine ⟨_, rfl, h, q, 5, rfl, by decide, by decide, hb, fun v H3 v0 v8 b3 h3 => ?_⟩
      have ep3 := b3 _ _ nph ep
      have hv : v.toNat < (odd5 z).length := by
        show v.toNat < 5
        omega
      have hy := List.getElem?_eq_getElem hv
      have hm := odd5_all z _ (List.getElem_mem hv)
      generalize (odd5 z)[v.toNat] = y at hy hm
      have el3 := b3 _ _ nlh (Sb _ _ (Sa _ _ (B12 _ _ nlh hl)))
      have nzh : z ≠ h := (h2.same_h hz).1
      have gy : REl H3 ex Bd y := by
        rcases hm with hm | rfl
        · exact .inl hm
        · exact .inr ⟨z, rfl, nzx, .inr ⟨[], b3 _ _ nzh (Sb _ _ ez)⟩⟩
      refine ⟨p, _, v, y, rfl, rfl, SqL.of ep3, at_of (j := v.toNat) (by omega) hy, _, rfl, _, rfl, l, rs, pl, pl.toNat, rfl, rfl, el3, ixN_at (by omega) (by omega), ?_⟩
      exact put Bd 0 false H2 H3 rs y none (fun b o nb _ e => B12 b o nb e) (fun b o nb e => b3 b o nb (Sb _ _ (Sa _ _ e))) h3 (Nat.le_refl _) (fun _ => Nat.le_refl _) (fun x hx => (hg x hx).fr (Fr.but B12 exh)) gy _
    rintro σ3 H3 ⟨v5, rs3, rfl, B3, h3, e3, l3, k3, i3⟩
    have m3 : Mid Bd 0 true [some (.ref h), some (.int m), some (.ref l), some (.int pl), some (.int so), v5] H3 := ⟨v5, rs3, rfl, B3, h3, e3, l3, fun _ => k3 (fun z => nomatch z), i3⟩
    refine ⟨Mid Bd 0 true, ?_, ?_⟩
    · refine ⟨_, rfl, rfl, _, rfl, ?_⟩
      refine ifD (fun c => ?_) (fun c => m3)
      have so1 : so = 1 := by injection c
      have k3' := k3 (fun z => nomatch z)
      have hp : pl.toNat < rs3.length := by omega
      refine ⟨_, rfl, .inl ⟨rfl, _, SqL.of e3⟩, _, rfl, l, rs3, pl, pl.toNat, _, rfl, rfl, e3, by omega, by omega, seq_at (by omega) (by omega), List.getElem?_eq_getElem hp, ?_⟩
      exact ⟨v5, _, rfl, fun b o nb nb2 e => by rw [upd_ne nb2]; exact B3 b o nb nb2 e, h3.put nlh.symm nlq.symm, upd_same, by have := List.length_eraseIdx_le rs3 pl.toNat; omega, fun z => absurd so1 (z rfl), fun x hx => (i3 x (List.mem_of_mem_eraseIdx hx)).fr (Fr.put exl)⟩
    clear m3 i3 k3 l3 e3 h3 B3
    rintro σ4 H4 ⟨v5, rs4, rfl, B4, h4, e4, l4, k4, i4⟩
    have m4 : Mid Bd 1 true [some (.ref h), some (.int m), some (.ref l), some (.int pl), some (.int so), v5] H4 := ⟨v5, rs4, rfl, B4, h4, e4, Nat.le_succ_of_le l4, k4, i4⟩
    refine ⟨Mid Bd 1 true, ?_, ?_⟩
    · refine ⟨_, rfl, rfl, _, rfl, ?_⟩
      refine ifD (fun c => ?_) (fun c => m4)
      refine ⟨_, rfl, .inl ⟨rfl, _, SqL.of e4⟩, (by show 1 ≤ sizeLine; decide), fun a ha => ?_⟩
      have Sa : Same H4 (upd H4 a (.lst [.int 0])) := new_same ha
      have ea : (upd H4 a (.lst [.int 0])) a = some (.lst [.int 0]) := upd_same
      have nah := (h4.same_h ha).1
      generalize upd H4 a (.lst [.int 0]) = Ha at Sa ea
      refine ⟨_, rfl, h, q, 9, rfl, by decide, by decide, h4.keep Sa, fun v H5 v0 v9 b5 h5 => ?_⟩
      have ea5 := b5 _ _ nah ea
      have B5 : ∀ b o, b ≠ h → b ≠ l → H b = some o → H5 b = some o := fun b o nb nb2 e => b5 b o nb (Sa _ _ (B4 b o nb nb2 e))
      have el5 := b5 _ _ nlh (Sa _ _ e4)
      refine ⟨a, v, [.int 0], rfl, rfl, ea5, by omega, by omega, (by show 1 * v.toNat ≤ 16777216; omega), fun z hz => ?_⟩
      rw [flat0]
      have nzx : ¬ ex z := fresh H5 z B5 h5 ⟨_, el5⟩ hz
      have Sz : Same H5 (upd H5 z (.lst (List.replicate v.toNat (.int 0)))) := new_same hz
      have ez : (upd H5 z (.lst (List.replicate v.toNat (.int 0)))) z = some (.lst (List.replicate v.toNat (.int 0))) := upd_same
      generalize upd H5 z (.lst (List.replicate v.toNat (.int 0))) = H6 at Sz ez
      refine ⟨l, rs4, .ref z, rfl, rfl, Sz _ _ el5, by show rs4.length < 16777216; omega, ?_⟩
      refine ⟨v5, _, rfl, fun b o nb nb2 e => by rw [upd_ne nb2]; exact Sz _ _ (B5 b o nb nb2 e), (h5.keep Sz).put nlh.symm nlq.symm, upd_same, by rw [List.length_append]; show rs4.length + 1 ≤ _; omega, fun z => by rw [List.length_append]; have := k4 z; omega, fun x hx => ?_⟩
      have F2 : Fr ex H6 (upd H6 l (.lst (rs4 ++ [.ref z]))) := Fr.put exl
      rcases List.mem_append.mp hx with hx | hx
      · exact (((((i4 x hx).fr (Fr.same Sa)).fr (Fr.but b5 exh)).fr (Fr.same Sz)).fr F2)
      · rw [List.mem_singleton] at hx
        subst hx
        refine .inr ⟨z, rfl, nzx, .inl ⟨_, F2 _ _ nzx ez, fun y hy => ?_, by rw [List.length_replicate]; omega⟩⟩
        rw [List.eq_of_mem_replicate hy]
        rfl
    clear m4 i4 k4 l4 e4 h4 B4
    rintro σ5 H5 ⟨v5, rs5, rfl, B5, h5, e5, l5, k5, i5⟩
    have m5 : Mid (Bd + 1) 1 true [some (.ref h), some (.int m), some (.ref l), some (.int pl), some (.int so), v5] H5 := ⟨v5, rs5, rfl, B5, h5, e5, l5, k5, fun x hx => (i5 x hx).le (Nat.le_succ _)⟩
    refine ⟨Mid (Bd + 1) 1 true, ?_, ?_⟩
    · refine ⟨_, rfl, rfl, _, rfl, ?_⟩
      refine ifD (fun c => ?_) (fun c => m5)
      have so3 : so = 3 := by injection c
      have k5' := k5 (fun _ => by omega)
      have hp : pl.toNat < rs5.length := by omega
      have ep := List.getElem?_eq_getElem hp
      have ip := i5 _ (List.getElem_mem hp)
      generalize rs5[pl.toNat] = y at ep ip
      obtain ⟨s, ⟨isy, _⟩, tl⟩ := ip.is
      obtain ⟨t, ht, _, _, kl, _⟩ := isy.ty (K := K)
      refine ⟨_, rfl, _, rfl, _, _, _, _, rfl, rfl, SqL.of e5, at_of (j := pl.toNat) (by omega) ep, _, _, _, _, _, rfl, .ty "list", ht, kit_ty kl, _, rfl, ?_⟩
      cases s with
      | sc u => exact iteF m5
      | dk => exact iteF m5
      | tup ys => cases tl
      | lst ys =>
        obtain ⟨a, rfl, ea⟩ := isy
        have hys : (∀ y ∈ ys, isSc y = true) ∧ ys.length ≤ Bd := by
          rcases ip with z | ⟨a', e', _, ⟨ys', e2, q1, q2⟩ | ⟨kvs, e2⟩⟩
          · cases z
          · injection e' with e'
            rw [← e', ea] at e2
            injection e2 with e2
            injection e2 with e2
            rw [e2]
            exact ⟨q1, q2⟩
          · injection e' with e'
            rw [← e', ea] at e2
            cases e2
        refine iteT ⟨_, rfl, _, rfl, _, _, _, _, rfl, rfl, SqL.of e5, at_of (j := pl.toNat) (by omega) ep, (by show 1 ≤ sizeLine; decide), fun p hp2 => ?_⟩
        have Sp2 : Same H5 (upd H5 p (.lst [.int 0])) := new_same hp2
        have epp : (upd H5 p (.lst [.int 0])) p = some (.lst [.int 0]) := upd_same
        generalize upd H5 p (.lst [.int 0]) = H6 at Sp2 epp
        refine ⟨a, p, ys, [.int 0], rfl, rfl, Sp2 _ _ ea, epp, (by show ys.length + 1 ≤ 16777216; omega), fun z hz => ?_⟩
        have el6 := Sp2 _ _ e5
        have B6 : ∀ b o, b ≠ h → b ≠ l → H b = some o → H6 b = some o := fun b o nb nb2 e => Sp2 _ _ (B5 b o nb nb2 e)
        have nzx : ¬ ex z := fresh H6 z B6 (h5.keep Sp2) ⟨_, el6⟩ hz
        have Sz : Same H6 (upd H6 z (.lst (ys ++ [.int 0]))) := new_same hz
        have ez : (upd H6 z (.lst (ys ++ [.int 0]))) z = some (.lst (ys ++ [.int 0])) := upd_same
        generalize upd H6 z (.lst (ys ++ [.int 0])) = H7 at Sz ez
        refine ⟨_, rfl, _, rfl, l, rs5, pl, pl.toNat, rfl, rfl, Sz _ _ el6, ixN_at (by omega) (by omega), ?_⟩
        refine put (Bd + 1) 1 true H5 H7 rs5 (.ref z) v5 B5 (fun b o _ e => Sz _ _ (Sp2 _ _ e)) ((h5.keep Sp2).keep Sz) l5 k5 (fun x hx => (i5 x hx).le (Nat.le_succ _)) (.inr ⟨z, rfl, nzx, .inl ⟨_, ez, fun y hy => ?_, by rw [List.length_append]; show ys.length + 1 ≤ _; omega⟩⟩) _
        rcases List.mem_append.mp hy with hy | hy
        · exact hys.1 y hy
        · rw [List.mem_singleton] at hy
          rw [hy]
          rfl
    clear m5 i5 k5 l5 e5 h5 B5
    rintro σ6 H6 ⟨v5, rs6, rfl, B6, h6, e6, l6, k6, i6⟩
    have fin : (∀ b o, b ≠ h → b ≠ l → H b = some o → H6 b = some o) → Q .non H6 := fun B6 => k H6 rs6 B6 h6 e6 l6 i6
    refine ⟨_, rfl, rfl, _, rfl, ?_⟩
    refine ifD (fun c => ?_) (fun c => fin B6)
    have so4 : so = 4 := by injection c
    have k6' := k6 (fun _ => by omega)
    have hp : pl.toNat < rs6.length := by omega
    have ep := List.getElem?_eq_getElem hp
    have ip := i6 _ (List.getElem_mem hp)
    generalize rs6[pl.toNat] = y at ep ip
    obtain ⟨s, ⟨isy, _⟩, tl⟩ := ip.is
    obtain ⟨t, ht, _, _, kl, _⟩ := isy.ty (K := K)
    refine ⟨_, rfl, _, rfl, _, _, _, _, rfl, rfl, SqL.of e6, at_of (j := pl.toNat) (by omega) ep, _, _, _, _, _, rfl, .ty "list", ht, kit_ty kl, _, rfl, ?_⟩
    cases s with
    | sc u => exact iteF (fin B6)
    | dk => exact iteF (fin B6)
    | tup ys => cases tl
    | lst ys =>
      obtain ⟨a, rfl, ea⟩ := isy
      have hys : (∀ y ∈ ys, isSc y = true) ∧ ys.length ≤ Bd + 1 := by
        rcases ip with z | ⟨a', e', _, ⟨ys', e2, q1, q2⟩ | ⟨kvs, e2⟩⟩
        · cases z
        · injection e' with e'
          rw [← e', ea] at e2
          injection e2 with e2
          injection e2 with e2
          rw [e2]
          exact ⟨q1, q2⟩
        · injection e' with e'
          rw [← e', ea] at e2
          cases e2
      refine iteT ⟨_, rfl, _, rfl, _, _, _, _, rfl, rfl, SqL.of e6, at_of (j := pl.toNat) (by omega) ep, (by show 0 ≤ sizeLine; decide), fun p hp2 => ?_⟩
      have Sp2 : Same H6 (upd H6 p (.lst [])) := new_same hp2
      have epp : (upd H6 p (.lst [])) p = some (.lst []) := upd_same
      generalize upd H6 p (.lst []) = H7 at Sp2 epp
      have B7 : ∀ b o, b ≠ h → b ≠ l → H b = some o → H7 b = some o := fun b o nb nb2 e => Sp2 _ _ (B6 b o nb nb2 e)
      have h7 := h6.keep Sp2
      have e7 := Sp2 _ _ e6
      have ea7 := Sp2 _ _ ea
      have i7 : ∀ x ∈ rs6, REl H7 ex (Bd + 1) x := fun x hx => (i6 x hx).fr (Fr.same Sp2)
      refine ⟨a, p, ys, rfl, rfl, SqL.of ea7, SqL.of epp, _, rfl, ?_⟩
      cases ys with
      | nil => exact iteF (k H7 rs6 B7 h7 e7 l6 i7)
      | cons y0 ys =>
        refine iteT ⟨_, rfl, _, rfl, _, _, _, _, rfl, rfl, SqL.of e7, at_of (j := pl.toNat) (by omega) ep, a, _, rfl, .inl (SqL.of ea7), fun w hw => ?_⟩
        generalize hzs : y0 :: ys = zs at ea7 hys hw
        have zpos : 0 < zs.length := by rw [← hzs]; exact Nat.succ_pos _
        have nwx : ¬ ex w := fresh H7 w B7 h7 ⟨_, e7⟩ hw
        have nwh := (h7.same_h hw).1
        have Sw : Same H7 (upd H7 w (.lst zs)) := new_same hw
        have ew : (upd H7 w (.lst zs)) w = some (.lst zs) := upd_same
        have nwl : w ≠ l := (ne_of_none e7 hw).symm
        generalize upd H7 w (.lst zs) = H8 at Sw ew
        have h8 := h7.keep Sw
        refine ⟨_, rfl, _, rfl, _, _, rfl, rfl, ⟨by decide, by decide, by decide⟩, (by show 7 ≤ sizeLine; decide), fun p3 hp3 => ?_⟩
        have Sp3 : Same H8 (upd H8 p3 (.lst (odd7 m))) := new_same hp3
        have ep3 : (upd H8 p3 (.lst (odd7 m))) p3 = some (.lst (odd7 m)) := upd_same
        have np3 := (h8.same_h hp3).1
        show tCons _ _ _ (upd H8 p3 (.lst (odd7 m))) _
        generalize upd H8 p3 (.lst (odd7 m)) = H9 at Sp3 ep3
        have h9 := h8.keep Sp3
        refine ⟨_, rfl, h, q, 7, rfl, by decide, by decide, h9, fun v HA v0 v7 bA hA => ?_⟩
        have epA := bA _ _ np3 ep3
        have hv : v.toNat < (odd7 m).length := by
          show v.toNat < 7
          omega
        have hy := List.getElem?_eq_getElem hv
        have hm := odd7_all m _ (List.getElem_mem hv)
        generalize (odd7 m)[v.toNat] = y at hy hm
        have ewA := bA _ _ nwh (Sp3 _ _ ew)
        refine ⟨p3, _, v, y, rfl, rfl, SqL.of epA, at_of (j := v.toNat) (by omega) hy, _, rfl, _, rfl, _, rfl, w, zs, rfl, .inl (SqL.of ewA), h, q, _, rfl, by omega, by omega, hA, fun u HB u0 u1 bB hB => ?_⟩
        have ewB := bB _ _ nwh ewA
        refine ⟨w, zs, u, u.toNat, rfl, rfl, ewB, ixN_at (by omega) (by omega), ?_⟩
        have step : ∀ b o, b ≠ h → H7 b = some o → HB b = some o := fun b o nb e => bB b o nb (bA b o nb (Sp3 _ _ (Sw _ _ e)))
        have eC : (upd HB w (.lst (zs.set u.toNat y))) w = some (.lst (zs.set u.toNat y)) := upd_same
        have stepC : ∀ b o, b ≠ h → H7 b = some o → (upd HB w (.lst (zs.set u.toNat y))) b = some o := fun b o nb e => by
          rw [upd_ne (ne_of_none e hw)]
          exact step b o nb e
        have hC : Hand (upd HB w (.lst (zs.set u.toNat y))) h q := hB.put nwh.symm (h7.same_h hw).2.symm
        generalize upd HB w (.lst (zs.set u.toNat y)) = HC at eC stepC hC
        have elC := stepC _ _ nlh e7
        refine ⟨_, rfl, _, rfl, _, rfl, l, rs6, pl, pl.toNat, rfl, rfl, elC, ixN_at (by omega) (by omega), ?_⟩
        obtain ⟨_, rs9, eq9, B9, h9', e9, l9, _, i9⟩ := put (Bd + 1) 1 true H7 HC rs6 (.ref w) v5 B7 stepC hC l6 k6 i7 (.inr ⟨w, rfl, nwx, .inl ⟨_, eC, fun x hx => by
          rcases List.mem_or_eq_of_mem_set hx with hx | rfl
          · exact hys.1 x hx
          · exact hm, by rw [List.length_set]; exact hys.2⟩⟩) pl.toNat
        exact k _ rs9 B9 h9' e9 l9 i9
end
end J

set_option Elab.async false
set_option linter.all false
set_option maxRecDepth 100000
set_option maxHeartbeats 4000000
namespace J
open PySem PySem.Spec PyProof.Rows L2
/-! ### != of None or of tuples of the same plain items -/
def rNeS (K : PySem.W.Frag) : R2 := fun x y H Q => ((x = .non ∧ y = .non) ∨ ∃ a b xs, x = .ref a ∧ y = .ref b ∧ SqT K H a xs ∧ SqT K H b xs ∧ ∀ x ∈ xs, flatB x = true) ∧ Q (.bl false) H
theorem op_neS {X : Cx} (hu : X.A.units + 64 < cLine) : OpR X (compareOp .NotEq) (rNeS X.K) := by
  intro pins s σ H x y v u Q I rx ry ⟨h, q⟩
  rcases h with ⟨rfl, rfl⟩ | ⟨a, b, xs, ex, ey, ha, hb, hf⟩
  · cases (show v = Value.none from rx)
    cases (show u = Value.none from ry)
    exact SeqAt.RcNeAt.none_none X.prog X.w _ _ ⟨.bl false, H, I, rfl, q⟩
  · subst ex
    subst ey
    obtain rfl : v = Value.ref a := rx
    obtain rfl : u = Value.ref b := ry
    obtain ⟨us, r1, p1, _⟩ := I.tuple ha
    obtain ⟨ws, r2, p2, _⟩ := I.tuple hb
    have l1 := r1.length
    have l2 := r2.length
    have k := SeqAt.RcNeAt.tuples (A := X.A) (e := fun _ => true) p1 p2 (by omega) (fun j h1 h2 => by
      have j1 : j < us.length := by simpa using h1
      have j2 : j < ws.length := by simpa using h2
      have jx : j < xs.length := by omega
      obtain ⟨u, eu, ru⟩ := r1.get (List.getElem?_eq_getElem jx)
      obtain ⟨v, ev, rv⟩ := r2.get (List.getElem?_eq_getElem jx)
      have e1 : us.toArray[j] = u := by
        have := List.getElem?_eq_getElem j1
        rw [eu] at this
        simpa using (Option.some.inj this).symm
      have e2 : ws.toArray[j] = v := by
        have := List.getElem?_eq_getElem j2
        rw [ev] at this
        simpa using (Option.some.inj this).symm
      rw [e1, e2]
      exact eqAt_same ru rv (hf _ (List.getElem_mem jx)))
    have hsz : us.toArray.size = ws.toArray.size := by simp; omega
    rw [show ((List.range (min us.toArray.size ws.toArray.size)).all fun _ => true) = true from List.all_eq_true.mpr fun _ _ => rfl, hsz] at k
    refine k X.prog X.w _ _ ?_
    rw [show (!(true && ws.toArray.size == ws.toArray.size)) = false by simp]
    exact ⟨.bl false, H, I, rfl, q⟩
/-! ### copies -/
def CopyV (H : Hp) (s : Sh) (x c : V) : Prop := match s with
  | .lst ys => ∃ z, c = .ref z ∧ H z = some (.tup ys)
  | _ => c = x
theorem CopyV.keep {H H' : Hp} {s : Sh} {x c : V} (h : CopyV H s x c) (S : Same H H') : CopyV H' s x c := by
  cases s with
  | lst ys => obtain ⟨z, e, q⟩ := h; exact ⟨z, e, S _ _ q⟩
  | _ => exact h
def CopyAll (H : Hp) (rs : List V) (ss : List Sh) (cs : List V) : Prop := cs.length = rs.length ∧ ∀ (j : Nat) (x : V) (s : Sh), rs[j]? = some x → ss[j]? = some s → ∃ c, cs[j]? = some c ∧ CopyV H s x c
theorem CopyAll.keep {H H' : Hp} {rs cs : List V} {ss : List Sh} (h : CopyAll H rs ss cs) (S : Same H H') : CopyAll H' rs ss cs :=
  ⟨h.1, fun j x s e1 e2 => by obtain ⟨c, a, b⟩ := h.2 j x s e1 e2; exact ⟨c, a, b.keep S⟩⟩
abbrev s_Lcopy : Stmt := top 30
theorem sc_Lcopy : FnScope ["_law_rows", "_law_row"] ["_law_rows"] (defScope s_Lcopy) := ⟨rfl, rfl, rfl, by decide +kernel, rfl, by decide +kernel, by decide +kernel⟩
def spCopy : Sp := fun vs H Q _ => ∃ (l : Addr) (rs : List V) (ss : List Sh), vs = [.ref l] ∧ H l = some (.lst rs) ∧ ShAll H rs ss ∧ rs.length ≤ 1000 ∧ ∀ (H' : Hp) (z : Addr) (cs : List V), Same H H' → H z = none → H' z = some (.lst cs) → CopyAll H' rs ss cs → Q (.ref z) H'
abbrev s_Lasked : Stmt := top 31
theorem sc_Lasked : FnScope ["_law_backs_here", "_law_guests", "_law_rows", "_law_company", "e"] ["_law_backs_here", "_law_guests", "_law_rows"] (defScope s_Lasked) := ⟨rfl, rfl, rfl, by decide +kernel, rfl, by decide +kernel, by decide +kernel⟩
def spAsked : Sp := fun vs H Q _ => ∃ (b : Addr) (ns : List Int) (g r : V) (sg sr : Sh) (ss : List Sh), vs = [.ref b, g, r] ∧ H b = some (.lst (ns.map V.int)) ∧ GoodB ns ∧ Is H g sg ∧ Known H (items sg) ∧ Is H r sr ∧ ShAll H (items sr) ss ∧ sg.isT = false ∧ sr.isT = false ∧ (∀ s ∈ ss, s.isT = false) ∧ (items sg).length ≤ 1000 ∧
  ∀ (H' : Hp) (v : V), Same H H' → dueVal H' (dueC ns.length sg sr ss) v → Q v H'
theorem ints_inj {xs ys : List Int} (h : xs.map V.int = ys.map V.int) : xs = ys := (List.map_inj_right (fun a b e => by injection e)).mp h
theorem lk_index {v u : V} : ([(("what" : Str), u), (("index" : Str), v)] : List (Str × V)).lookup ("index" : Str) = some v := by
  have h : (("index" : Str) == ("what" : Str)) = false := by decide +kernel
  have h2 : (("index" : Str) == ("index" : Str)) = true := by decide +kernel
  simp only [List.lookup, h, h2]
theorem lk_what {v u : V} : ([(("what" : Str), u), (("index" : Str), v)] : List (Str × V)).lookup ("what" : Str) = some u := by
  have h2 : (("what" : Str) == ("what" : Str)) = true := by decide +kernel
  simp only [List.lookup, h2]
theorem paired_of {α β : Type} {R : α → β → Prop} : ∀ {xs : List α} {ys : List β}, xs.length = ys.length → (∀ (j : Nat) (x : α) (y : β), xs[j]? = some x → ys[j]? = some y → R x y) → Paired R xs ys
  | [], [], _, _ => .nil
  | [], _ :: _, h, _ => by cases h
  | _ :: _, [], h, _ => by cases h
  | x :: xs, y :: ys, h, f => .cons (f 0 x y rfl rfl) (paired_of (Nat.succ.inj h) fun j a b e1 e2 => f (j + 1) a b (by simpa using e1) (by simpa using e2))
theorem due_good {ns : List Int} (g : GoodB ns) : due (.lst (ns.map V.int)) = none := by
  show dueS (ns.map V.int) = none
  refine dueS_none (by rw [List.length_map]; exact ⟨g.lo, g.hi⟩) (fun x hx => ?_) (fun k hk => ?_)
  · obtain ⟨n, hn, rfl⟩ := List.mem_map.mp hx
    obtain ⟨a, b⟩ := g.rng n hn
    rw [List.length_map]
    exact whole_of a (by omega)
  · rw [List.length_map] at hk
    have e := List.getElem?_eq_getElem hk
    rw [backB_iff e, decide_eq_true (g.inv k _ e)]
section
variable {P : Program} {w : World} {K : PySem.W.Frag} {mg : Str → Option Value} {base : Heap}
theorem ok_Lcopy {f : Addr} {fd : FuncData} (F : Fun K "_law_copy" "_law_copy" s_Lcopy f fd) (nis : mg "isinstance" = none) (nli : mg "list" = none) (nt : mg "tuple" = none) : FnOk P w K mg base CX0 1 f fd ["_law_rows"] spCopy := by
  refine F.ok sc_Lcopy (fun vs H Q E h => ?_) (fun cdv A outer s H vs Q E hr h => ?_)
  · obtain ⟨l, rs, ss, rfl, _⟩ := h
    rfl
  · obtain ⟨l, rs, ss, rfl, hl, hs, le, k⟩ := h
    refine ⟨_, (pss_one 
  (ps_ret (pe_lc (own := [("_law_row", 1)]) (g := gName 1) (by rfl) sc_Lcopy.nd (pi_list (pv 0)) (blkOk_by (own := [("_law_row", 1)]) (N := ["_law_rows", "_law_row"]) (sc := defScope s_Lcopy) (by decide +kernel)) (fun _ _ _ _ _ => pg_name (i := 1) sc_Lcopy.nd rfl (Or.inl rfl)) (fun _ _ _ _ _ => pts_nil) (fun _ _ _ _ _ => (pe_ifExp (pt_val (pe_callB (id := "isinstance") (r := rIsiT K) call_isiT (by rfl) nis (by decide +kernel) (pa_cons (pv 1) (pa_cons (pe_tup (pa_cons (pe_bltn (by rfl) nli (by decide +kernel) (v := .ty "list") rfl) (pa_cons (pe_bltn (by rfl) nt (by decide +kernel) (v := .ty "tuple") rfl) pa_nil))) pa_nil)))) (pe_callTy (T := "tuple") (r := rTup K) call_tuple_of (by rfl) nt (by decide +kernel) (pa_cons (pv 1) pa_nil)) (pv 1)))))), ?_⟩
    refine ⟨_, rfl, l, rfl, ⟨_, SqL.of hl⟩, fun D hD => ?_⟩
    refine lc_list (K := K) (a := l) (xs := rs) (fun i H1 => Same H H1 ∧ H D = none ∧ ∃ cs : List V, cs.length = i ∧ H1 D = some (.lst cs) ∧ ∀ (j : Nat) (x : V) (s : Sh), j < i → rs[j]? = some x → ss[j]? = some s → ∃ c, cs[j]? = some c ∧ CopyV H1 s x c)
      ⟨new_same hD, hD, [], rfl, upd_same, fun j x s hj => absurd hj (Nat.not_lt_zero j)⟩ (fun i H1 _ ⟨S, _⟩ => SqL.of (S _ _ hl)) ?_ ?_
    · rintro i y H1 hy ⟨S1, D0, cs, cl, eD, hc⟩
      obtain ⟨s, es, isy, _⟩ := hs.at_ hy
      have hi : i < rs.length := (List.getElem?_eq_some_iff.mp hy).1
      have put : ∀ (H5 : Hp) (c : V), Same H1 H5 → CopyV H5 s y c → ∃ acc : List V, H5 D = some (.lst acc) ∧ acc.length < sizeLine ∧ Same H (upd H5 D (.lst (acc ++ [c]))) ∧ H D = none ∧ ∃ cs : List V, cs.length = i + 1 ∧ (upd H5 D (.lst (acc ++ [c]))) D = some (.lst cs) ∧ ∀ (j : Nat) (x : V) (s : Sh), j < i + 1 → rs[j]? = some x → ss[j]? = some s → ∃ c', cs[j]? = some c' ∧ CopyV (upd H5 D (.lst (acc ++ [c]))) s x c' := fun H5 c S5 hcv => by
        have eD5 := S5 _ _ eD
        have kept : ∀ {s : Sh} {x c' : V}, CopyV H5 s x c' → CopyV (upd H5 D (.lst (cs ++ [c]))) s x c' := fun {s x c'} q => by
          cases s with
          | lst ys =>
            obtain ⟨z, e, ez⟩ := q
            exact ⟨z, e, by rw [upd_ne (ne_of ez eD5 (by intro z; cases z))]; exact ez⟩
          | _ => exact q
        refine ⟨cs, eD5, small1000 (by omega), fun b o eb => ?_, D0, cs ++ [c], by rw [List.length_append, cl]; rfl, upd_same, fun j x s2 hj ex e2 => ?_⟩
        · rw [upd_ne (ne_of_none eb D0)]
          exact S5 _ _ (S1 _ _ eb)
        · rcases Nat.lt_or_ge j i with hj2 | hj2
          · obtain ⟨c', a, b⟩ := hc j x s2 hj2 ex e2
            exact ⟨c', by rw [List.getElem?_append_left (by omega)]; exact a, kept (b.keep S5)⟩
          · obtain rfl : j = i := by omega
            obtain rfl : x = y := by rw [hy] at ex; exact (Option.some.inj ex).symm
            obtain rfl : s = s2 := by rw [es] at e2; exact Option.some.inj e2
            exact ⟨c, by rw [← cl, List.getElem?_append_right (Nat.le_refl _), Nat.sub_self]; rfl, kept hcv⟩
      refine ⟨rfl, yesT ?_⟩
      refine ⟨_, rfl, (by show 2 ≤ sizeLine; decide), fun p1 hp1 => ?_⟩
      obtain ⟨t1, ht1, kk1⟩ := is_new (K := K) (isy.keep S1) hp1
      have S2 : Same H1 (upd H1 p1 (.tup [.ty "list", .ty "tuple"])) := new_same hp1
      refine ⟨_, _, _, _, _, _, rfl, upd_same, .cons (.ty "list") (.cons (.ty "tuple") .nil), ht1, kk1, _, rfl, ?_⟩
      generalize upd H1 p1 (.tup [.ty "list", .ty "tuple"]) = H2 at S2
      cases s with
      | sc u => exact iteF ⟨_, rfl, put H2 _ S2 rfl⟩
      | dk => exact iteF ⟨_, rfl, put H2 _ S2 rfl⟩
      | tup ys =>
        obtain ⟨a, rfl, ea⟩ := isy
        exact iteT ⟨_, rfl, a, ys, rfl, .inr ⟨SqT.of (S2 _ _ (S1 _ _ ea)), put H2 _ S2 rfl⟩⟩
      | lst ys =>
        obtain ⟨a, rfl, ea⟩ := isy
        refine iteT ⟨_, rfl, a, ys, rfl, .inl ⟨SqL.of (S2 _ _ (S1 _ _ ea)), fun z hz => ?_⟩⟩
        exact put _ (.ref z) (S2.trans (new_same hz)) ⟨z, rfl, upd_same⟩
    · rintro H1 ⟨S1, D0, cs, cl, eD, hc⟩
      exact k H1 D cs S1 D0 eD ⟨cl, fun j x s e1 e2 => hc j x s (List.getElem?_eq_some_iff.mp e1).1 e1 e2⟩
theorem ok_Lasked {f C CC CB CE fI fJ fE fY : Addr} {fd fdI fdJ fdE fdY : FuncData} (F : Fun K "_law_asked" "_law_asked" s_Lasked f fd) (nli : mg "list" = none) (mT : mg "Ties" = some (.ref C)) (mC : mg "Company" = some (.ref CC)) (c : CoC K CC)
    (M : Mk K C fI) (FI : FnOk P w K mg base (L2.CX P w) 4 fI fdI ["self", "backs"] (spTies C CE)) (bI : Binds K fdI ["self", "backs"] [])
    (M2 : Mk K CC fJ) (FJ : FnOk P w K mg base (L2.CX P w) 5 fJ fdJ ["self", "ties", "guests", "rows"] (spCompI C CC CB)) (bJ : Binds K fdJ ["self", "ties", "guests", "rows"] [])
    (GB : Ex2 P w K mg base "BadCompany" "index" "what" CB fE fdE ["self", "index", "what"]) (GY : Cal P w K mg base CX0 1 "_law_copy" fY fdY ["_law_rows"] spCopy) : FnOk P w K mg base CX0 7 f fd ["_law_backs_here", "_law_guests", "_law_rows"] spAsked := by
  refine F.ok sc_Lasked (fun vs H Q E h => ?_) (fun cdv A outer s H vs Q E hr h => ?_)
  · obtain ⟨b, ns, g, r, sg, sr, ss, rfl, _⟩ := h
    rfl
  · obtain ⟨b, ns, g, r, sg, sr, ss, rfl, hb, gb, hg, kg, hrr, hs, tg, tr, ts, lg, k⟩ := h
    have hr5 : Room 5 _ := hr.mono (by decide)
    refine ⟨_, (pss_cons 
  (ps_try_as (i := 4) (Wout := fun _ _ _ _ => False) rfl rfl sc_Lasked.nd rfl rfl ⟨rfl, by decide, Or.inl GB.m⟩ takes0 (fun W pn xe tk _ => (pss_one 
    (ps_set (i := 3) sc_Lasked.nd rfl (Or.inl rfl) (by exact (pmakS M2 FJ hr rfl mC bJ (fun σ => passAt tk σ) (by exact (pa_cons (pmakS M FI hr5 rfl mT bI (fun σ => passAt tk σ) (by exact (pa_cons (pv 0) pa_nil))) (pa_cons (pv 1) (pa_cons (pv 2) pa_nil))))))))) (fun a oe cls d pn hz hf => (pss_one 
    (ps_ret (pe_tup (pa_cons (pe_xf GB.xf GB.no1 hz hf (pv 4)) (pa_cons (pe_xf GB.xf GB.no2 hz hf (pv 4)) pa_nil))))))) (pss_cons 
  (ps_if (PW.pt (pw_or (pt_cmpR (op_neL hr.units) (pe_callTy call_list_of (by rfl) nli (by decide +kernel) (pa_cons (pe_fld (pv 3) rfl) pa_nil)) (pe_callTy call_list_of (by rfl) nli (by decide +kernel) (pa_cons (pv 1) pa_nil)) (nomark _)) (pw_or1 (pt_cmpR (op_neL hr.units) (pe_callTy call_list_of (by rfl) nli (by decide +kernel) (pa_cons (pe_fld (pv 3) rfl) pa_nil)) (pcal GY hr pass0 (pa_cons (pv 2) pa_nil)) (nomark _))))) (pss_one 
    (ps_ret (pe_tup (pa_cons (pe_un un_neg pe_int) (pa_cons pe_str pa_nil))))) pss_nil) (pss_one 
  (ps_ret pe_non)))), ?_⟩
    refine ⟨_, rfl, fun x dx nx ndx nex => ?_⟩
    have S0 : Same H (upd (upd H dx (.own x)) x (.ins C dx [])) := fun b o e => by
      rw [upd_ne (ne_of_none e nx), upd_ne (ne_of_none e ndx)]
      exact e
    refine ⟨x, dx, _, .lst (ns.map V.int), rfl, upd_same, ⟨b, rfl, S0 _ _ hb⟩, sc_known (fun y hy => by obtain ⟨n, _, rfl⟩ := List.mem_map.mp hy; rfl), fun u hu => ?_, fun ns' hd' hns H1 B1 T1 => ?_⟩
    · rw [due_good gb] at hu
      cases hu
    obtain rfl : ns = ns' := ints_inj hns
    have S1 : Same H H1 := fun b o e => B1 b o (ne_of_none e nx) (S0 b o e)
    refine ⟨rfl, _, rfl, _, rfl, fun x2 dx2 nx2 ndx2 nex2 => ?_⟩
    have S2 : Same H1 (upd (upd H1 dx2 (.own x2)) x2 (.ins CC dx2 [])) := fun b o e => by
      rw [upd_ne (ne_of_none e nx2), upd_ne (ne_of_none e ndx2)]
      exact e
    have S12 := S1.trans S2
    refine ⟨x2, dx2, x, ns, g, r, sg, sr, ss, rfl, upd_same, T1.keep S2, hg.keep S12, kg.keep S12, hrr.keep S12, hs.keep S12, lg, fun i u hu d H4 nd S4 e4 => ?_, fun hd H4 B4 CA => ?_⟩
    · refine ⟨true, GB.te, fun _ a ha => ?_, fun q => nomatch q⟩
      refine ⟨_, rfl, rfl, rfl, d, _, .int i, rfl, e4, lk_index, _, rfl, rfl, rfl, d, _, .str u, rfl, e4, lk_what, (by show 2 ≤ sizeLine; decide), fun p hp => ?_⟩
      refine k _ _ ((S12.trans S4).trans (new_same hp)) ?_
      rw [hu]
      exact ⟨p, rfl, upd_same⟩
    · have G := goodC_of hd
      have S4 : Same H H4 := fun b o e => B4 b o (ne_of_none (S1 _ _ e) nx2) (S12 _ _ e)
      obtain ⟨dx3, t3, ga, ra, b3, p3, ps, a1, a2, a3, a4, a5⟩ := CA
      obtain ⟨is, eis⟩ := G.ints
      cases sg with
      | sc u => exact nomatch G.sq
      | dk => exact nomatch G.sq
      | tup gs => cases tg
      | lst gs =>
      cases sr with
      | sc u => exact nomatch G.sq
      | dk => exact nomatch G.sq
      | tup rs => cases tr
      | lst rs =>
        obtain ⟨pg, rfl, hp⟩ := hg
        obtain ⟨pr, rfl, hq⟩ := hrr
        have sl : rs.length = ss.length := hs.len
        have gle : gs.length ≤ 60 := G.le
        have rle : rs.length ≤ gs.length := G.ln
        refine ⟨rfl, _, rfl, x2, CC, _, _, _, rfl, a1, c.cl, c.nG, cf_guests _ _ _ _ _, ga, gs, rfl, .inr (SqT.of a2), fun z1 hz1 => ?_⟩
        have T1' : Same H4 (upd H4 z1 (.lst gs)) := new_same hz1
        have ez1 : (upd H4 z1 (.lst gs)) z1 = some (.lst gs) := upd_same
        generalize upd H4 z1 (.lst gs) = H5 at T1' ez1
        refine ⟨_, rfl, pg, gs, rfl, .inl (SqL.of (T1' _ _ (S4 _ _ hp))), fun z2 hz2 => ?_⟩
        have T2 : Same H5 (upd H5 z2 (.lst gs)) := new_same hz2
        have ez2 : (upd H5 z2 (.lst gs)) z2 = some (.lst gs) := upd_same
        generalize upd H5 z2 (.lst gs) = H6 at T2 ez2
        refine ⟨z1, z2, gs, gs, rfl, rfl, SqL.of (T2 _ _ ez1), SqL.of ez2, paired_of rfl (fun j u v e1 e2 => ?_), _, rfl, iteF ?_⟩
        · rw [e1] at e2
          obtain rfl := Option.some.inj e2
          refine .inl ⟨rfl, ?_⟩
          have hm := List.mem_of_getElem? e1
          rw [show gs = is.map V.int from eis] at hm
          obtain ⟨n, _, rfl⟩ := List.mem_map.mp hm
          rfl
        · have T12 := T1'.trans T2
          refine ⟨_, rfl, x2, CC, _, _, _, rfl, T12 _ _ a1, c.cl, c.nR, cf_rows _ _ _ _ _, ra, _, rfl, .inr (SqT.of (T12 _ _ a3)), fun z3 hz3 => ?_⟩
          have T3 : Same H6 (upd H6 z3 (.lst (ps.map V.ref))) := new_same hz3
          have ez3 : (upd H6 z3 (.lst (ps.map V.ref))) z3 = some (.lst (ps.map V.ref)) := upd_same
          generalize upd H6 z3 (.lst (ps.map V.ref)) = H7 at T3 ez3
          have S7 := (S4.trans T12).trans T3
          refine ⟨_, rfl, pr, rs, ss, rfl, S7 _ _ hq, hs.keep S7, by omega, fun H8 z4 cs S8 _ e8 ca => ?_⟩
          have pl : ps.length = ss.length := by rw [a4, List.length_map]
          refine ⟨z3, z4, _, cs, rfl, rfl, SqL.of (S8 _ _ ez3), SqL.of e8, paired_of (by rw [List.length_map, ca.1]; omega) (fun j u v e1 e2 => ?_), _, rfl, iteF (k H8 _ (S7.trans S8) (by rw [hd]; rfl))⟩
          have hj : j < ps.length := by
            have q := (List.getElem?_eq_some_iff.mp e1).1
            rw [List.length_map] at q
            exact q
          have ea := List.getElem?_eq_getElem hj
          generalize ps[j] = a at ea
          rw [List.getElem?_map, ea] at e1
          obtain rfl : V.ref a = u := Option.some.inj e1
          obtain ⟨s, es, ew⟩ := G.row (j := j) (by show j < gs.length; omega)
          obtain ⟨sq, tt, etts, _, _⟩ := rowW_good ew
          obtain ⟨cc, ec, cv⟩ := ca.2 j _ s (List.getElem?_eq_getElem (by omega)) es
          obtain rfl : v = cc := by rw [e2] at ec; exact Option.some.inj ec
          cases s with
          | sc u => exact nomatch sq
          | dk => exact nomatch sq
          | tup ys => exact nomatch ts _ (List.mem_of_getElem? es)
          | lst ys =>
            obtain ⟨z, rfl, ez⟩ := cv
            refine .inr (.inr ⟨a, z, ys, rfl, rfl, SqT.of ?_, SqT.of ez, fun y hy => ?_⟩)
            · exact S8 _ _ (T3 _ _ (T12 _ _ (a5 j a ys ea (by rw [List.getElem?_map, es]; rfl))))
            · rw [show ys = tt.map V.int from etts] at hy
              obtain ⟨n, _, rfl⟩ := List.mem_map.mp hy
              rfl
end
end J

set_option Elab.async false
set_option linter.all false
set_option maxRecDepth 100000
set_option maxHeartbeats 4000000
namespace J
open PySem PySem.Spec PyProof.Rows L2
abbrev s_law : Stmt := top 32
theorem sc_law : FnScope ["_law_script", "_law_hand_here", "_law_turn", "_law_backs_here", "_law_many", "_law_guests", "_law_rows", "_law_k", "_law_kind", "_law_due_here", "_law_kept", "_law_told", "_law_j", "_law_i"] ["_law_script"] (defScope s_law) := ⟨rfl, rfl, rfl, by decide +kernel, rfl, by decide +kernel, by decide +kernel⟩
def spLaw (K : PySem.W.Frag) : Sp := fun vs H Q _ => ∃ (a : Addr) (ns : List Int), vs = [.ref a] ∧ SqL K H a (ns.map V.int) ∧ ns.length ≤ 63 ∧ ∀ H', Q (.bl true) H'
/-- the scope of the outer comprehension -/
abbrev outSc : Scope := { kind := .function, names := [(".0", .local), ("_law_j", .local), ("range", .globalImplicit), ("_law_backs_here", .free), ("_law_hand_here", .free)], isGenerator := false, isCoroutine := false }
abbrev Ex3 (h l r : Addr) : Addr → Prop := fun a => a = h ∨ a = l ∨ a = r
/-- guests as they are asked: the list, or what was put in its place; stable under draws -/
inductive GG (ex : Addr → Prop) (h : Addr) (H : Hp) : V → Sh → Prop
  | sc {v : V} : isSc v = true → GG ex h H v (.sc v)
  | dk {z : Addr} {kvs : List (Key × V)} : z ≠ h → H z = some (.dK kvs) → GG ex h H (.ref z) .dk
  | lst {l : Addr} {gs : List V} : l ≠ h → H l = some (.lst gs) → gs.length ≤ 1000 → (∀ x ∈ gs, GEl H ex x) → GG ex h H (.ref l) (.lst gs)
inductive RR (ex : Addr → Prop) (h : Addr) (H : Hp) : V → Sh → Prop
  | sc {v : V} : isSc v = true → RR ex h H v (.sc v)
  | dk {z : Addr} {kvs : List (Key × V)} : z ≠ h → H z = some (.dK kvs) → RR ex h H (.ref z) .dk
  | lst {l : Addr} {gs : List V} : l ≠ h → H l = some (.lst gs) → gs.length ≤ 1000 → (∀ x ∈ gs, REl H ex 100 x) → RR ex h H (.ref l) (.lst gs)
theorem GG.but {ex : Addr → Prop} {h : Addr} {H H' : Hp} {v : V} {s : Sh} (g : GG ex h H v s) (B : But h H H') (e : ex h) : GG ex h H' v s := by
  cases g with
  | sc a => exact .sc a
  | dk n a => exact .dk n (B _ _ n a)
  | lst n a b c => exact .lst n (B _ _ n a) b fun x hx => (c x hx).fr (Fr.but B e)
theorem RR.but {ex : Addr → Prop} {h : Addr} {H H' : Hp} {v : V} {s : Sh} (g : RR ex h H v s) (B : But h H H') (e : ex h) : RR ex h H' v s := by
  cases g with
  | sc a => exact .sc a
  | dk n a => exact .dk n (B _ _ n a)
  | lst n a b c => exact .lst n (B _ _ n a) b fun x hx => (c x hx).fr (Fr.but B e)
def SelfV (x : V) : Prop := flatB x = true ∨ ∃ a, x = .ref a
theorem sc_flat {x : V} (h : isSc x = true) : flatB x = true := by cases x <;> first | rfl | cases h
theorem SelfV.same {K : PySem.W.Frag} {H : Hp} {x : V} (h : SelfV x) : SameV K H x x := by
  rcases h with f | ⟨a, rfl⟩
  · exact .inl ⟨rfl, f⟩
  · exact .inr (.inl ⟨a, rfl, rfl⟩)
/-- what is known of the guests, whatever is made besides -/
structure GK (H : Hp) (g : V) (sg : Sh) : Prop where
  i : Is H g sg
  k : Known H (items sg)
  t : sg.isT = false
  l : (items sg).length ≤ 1000
  f : ∀ x ∈ items sg, SelfV x
structure RK (H : Hp) (r : V) (sr : Sh) (ss : List Sh) : Prop where
  i : Is H r sr
  a : ShAll H (items sr) ss
  t : sr.isT = false
  ts : ∀ s ∈ ss, s.isT = false
  l : (items sr).length ≤ 1000
  f : ∀ s ∈ ss, ∀ y ∈ items s, flatB y = true
theorem GK.keep {H H' : Hp} {g : V} {sg : Sh} (x : GK H g sg) (S : Same H H') : GK H' g sg := ⟨x.i.keep S, x.k.keep S, x.t, x.l, x.f⟩
theorem RK.keep {H H' : Hp} {r : V} {sr : Sh} {ss : List Sh} (x : RK H r sr ss) (S : Same H H') : RK H' r sr ss := ⟨x.i.keep S, x.a.keep S, x.t, x.ts, x.l, x.f⟩
theorem GG.gk {ex : Addr → Prop} {h : Addr} {H : Hp} {v : V} {s : Sh} (g : GG ex h H v s) : GK H v s := by
  cases g with
  | sc a => exact ⟨⟨rfl, a⟩, fun x hx => (nomatch hx), rfl, Nat.zero_le _, fun x hx => (nomatch hx)⟩
  | dk n a => exact ⟨⟨_, _, rfl, a⟩, fun x hx => (nomatch hx), rfl, Nat.zero_le _, fun x hx => (nomatch hx)⟩
  | lst n a b c => exact ⟨⟨_, rfl, a⟩, fun x hx => (c x hx).is, rfl, b, fun x hx => by
      rcases c x hx with q | ⟨z, e, _⟩
      · exact .inl (sc_flat q)
      · exact .inr ⟨z, e⟩⟩
theorem rel_all2 {H : Hp} {ex : Addr → Prop} {B : Nat} : ∀ {rs : List V}, (∀ x ∈ rs, REl H ex B x) → ∃ ss, ShAll H rs ss ∧ (∀ s ∈ ss, s.isT = false) ∧ ∀ s ∈ ss, ∀ y ∈ items s, flatB y = true
  | [], _ => ⟨[], .nil, fun s hs => (nomatch hs), fun s hs => (nomatch hs)⟩
  | x :: rs, h => by
    obtain ⟨s, i, t, f⟩ : ∃ s, (Is H x s ∧ Known H (items s)) ∧ s.isT = false ∧ ∀ y ∈ items s, flatB y = true := by
      rcases h x (List.mem_cons_self ..) with g | ⟨a, e, n, ⟨ys, h, q, _⟩ | ⟨kvs, h⟩⟩
      · exact ⟨.sc x, ⟨⟨rfl, g⟩, fun y hy => (nomatch hy)⟩, rfl, fun y hy => (nomatch hy)⟩
      · exact ⟨.lst ys, ⟨⟨a, e, h⟩, sc_known q⟩, rfl, fun y hy => sc_flat (q y hy)⟩
      · exact ⟨.dk, ⟨⟨a, kvs, e, h⟩, fun y hy => (nomatch hy)⟩, rfl, fun y hy => (nomatch hy)⟩
    obtain ⟨ss, a, b, c⟩ := rel_all2 (rs := rs) fun y hy => h y (List.mem_cons_of_mem _ hy)
    refine ⟨s :: ss, .cons i a, fun z hz => ?_, fun z hz => ?_⟩
    · rcases List.mem_cons.mp hz with e | hz
      · rw [e]; exact t
      · exact b z hz
    · rcases List.mem_cons.mp hz with e | hz
      · rw [e]; exact f
      · exact c z hz
theorem RR.rk {ex : Addr → Prop} {h : Addr} {H : Hp} {v : V} {s : Sh} (g : RR ex h H v s) : ∃ ss, RK H v s ss := by
  cases g with
  | sc a => exact ⟨[], ⟨rfl, a⟩, .nil, rfl, fun x hx => (nomatch hx), Nat.zero_le _, fun x hx => (nomatch hx)⟩
  | dk n a => exact ⟨[], ⟨_, _, rfl, a⟩, .nil, rfl, fun x hx => (nomatch hx), Nat.zero_le _, fun x hx => (nomatch hx)⟩
  | lst n a b c =>
    obtain ⟨ss, p, q, r⟩ := rel_all2 c
    exact ⟨ss, ⟨_, rfl, a⟩, p, rfl, q, b, r⟩
def odd4 (z : Addr) : List V := [.non, .str "12", .int 4, .ref z]
theorem odd4_all (z : Addr) : ∀ y ∈ odd4 z, isSc y = true ∨ y = .ref z := by
  intro y hy
  unfold odd4 at hy
  simp only [List.mem_cons, List.not_mem_nil, or_false] at hy
  rcases hy with rfl | rfl | rfl | rfl <;> first | exact .inl rfl | exact .inr rfl
/-- two copies of the same rows -/
theorem copies_same {K : PySem.W.Frag} {H : Hp} {rs : List V} {ss : List Sh} {cs1 cs2 : List V} (f : ∀ s ∈ ss, ∀ y ∈ items s, flatB y = true) (a : ShAll H rs ss) (c1 : CopyAll H rs ss cs1) (c2 : CopyAll H rs ss cs2) : Paired (SameV K H) cs1 cs2 := by
  refine paired_of (by rw [c1.1, c2.1]) fun j x y e1 e2 => ?_
  have hj : j < rs.length := by
    have q := (List.getElem?_eq_some_iff.mp e1).1
    rw [c1.1] at q
    exact q
  obtain ⟨s, es, is, _⟩ := a.at_ (List.getElem?_eq_getElem hj)
  obtain ⟨x', ex, v1⟩ := c1.2 j _ s (List.getElem?_eq_getElem hj) es
  obtain ⟨y', ey, v2⟩ := c2.2 j _ s (List.getElem?_eq_getElem hj) es
  obtain rfl : x = x' := by rw [e1] at ex; exact Option.some.inj ex
  obtain rfl : y = y' := by rw [e2] at ey; exact Option.some.inj ey
  cases s with
  | sc u =>
    obtain ⟨e, q⟩ := is
    have w1 : x = rs[j] := v1
    have w2 : y = rs[j] := v2
    exact .inl ⟨by rw [w1, w2], by rw [w1, e]; exact sc_flat (e ▸ q)⟩
  | dk =>
    obtain ⟨b, _, e, _⟩ := is
    have w1 : x = rs[j] := v1
    have w2 : y = rs[j] := v2
    exact .inr (.inl ⟨b, by rw [w1, e], by rw [w2, e]⟩)
  | tup ys =>
    obtain ⟨b, e, _⟩ := is
    have w1 : x = rs[j] := v1
    have w2 : y = rs[j] := v2
    exact .inr (.inl ⟨b, by rw [w1, e], by rw [w2, e]⟩)
  | lst ys =>
    obtain ⟨z1, w1, q1⟩ := v1
    obtain ⟨z2, w2, q2⟩ := v2
    exact .inr (.inr ⟨z1, z2, ys, w1, w2, SqT.of q1, SqT.of q2, fun y hy => f _ (List.mem_of_getElem? es) y hy⟩)
section
variable {P : Program} {w : World} {K : PySem.W.Frag} {mg : Str → Option Value} {base : Heap}
theorem ok_law {f fH fD fK fL fG fR fU fY fA : Addr} {fd fdH fdD fdK fdL fdG fdR fdU fdY fdA : FuncData} (F : Fun K "law" "law" s_law f fd) (nl : mg "len" = none) (nis : mg "isinstance" = none) (nli : mg "list" = none) (nb : mg "bool" = none) (nr : mg "range" = none)
    (GH : Cal P w K mg base CX0 1 "_law_hand" fH fdH ["_law_script"] (spHand K)) (GD : Cal P w K mg base CX0 2 "_law_draw" fD fdD ["_law_hand_here", "_law_many"] spDraw) (GK : Cal P w K mg base CX0 3 "_law_backs" fK fdK ["_law_hand_here", "_law_many"] spBacks)
    (GL : Cal P w K mg base CX0 3 "_law_labels" fL fdL ["_law_hand_here", "_law_many"] spLabels) (GSG : Cal P w K mg base CX0 3 "_law_spoil_guests" fG fdG ["_law_hand_here", "_law_guests"] spSpG) (GSR : Cal P w K mg base CX0 3 "_law_spoil_rows" fR fdR ["_law_hand_here", "_law_many", "_law_rows"] spSpR)
    (GU : Cal P w K mg base CX0 2 "_law_due" fU fdU ["_law_many", "_law_guests", "_law_rows"] spDueC) (GY : Cal P w K mg base CX0 1 "_law_copy" fY fdY ["_law_rows"] spCopy) (GA : Cal P w K mg base CX0 7 "_law_asked" fA fdA ["_law_backs_here", "_law_guests", "_law_rows"] spAsked) : FnOk P w K mg base CX0 8 f fd ["_law_script"] (spLaw K) := by
  refine F.ok sc_law (fun vs H Q E h => ?_) (fun cdv A outer s H vs Q E hr h => ?_)
  · obtain ⟨a, ns, rfl, _⟩ := h
    rfl
  · obtain ⟨a, ns, rfl, hS, hn, k⟩ := h
    refine ⟨_, (pss_cons 
  (ps_set (i := 1) sc_law.nd rfl (Or.inr rfl) (pcal GH hr pass0 (pa_cons (pv 0) pa_nil))) (pss_cons 
  (ps_for PassesOwn.never rfl (pi_range1 (by rfl) nr (pa_cons pe_int pa_nil)) (pg_name (i := 2) sc_law.nd rfl (Or.inl rfl)) (pss_cons 
    (ps_set (i := 3) sc_law.nd rfl (Or.inr rfl) (pcal GK hr pass0 (pa_cons (pv 1) (pa_cons (pe_op op_add pe_int (pcal GD hr pass0 (pa_cons (pv 1) (pa_cons pe_int pa_nil)))) pa_nil)))) (C8.pss_cut 
    (ps_set (i := 4) sc_law.nd rfl (Or.inl rfl) (pe_ifExp (pt_cmpR op_gt (pcal GD hr pass0 (pa_cons (pv 1) (pa_cons pe_int pa_nil))) pe_int (nomark _)) (pcal GD hr pass0 (pa_cons (pv 1) (pa_cons pe_int pa_nil))) (pe_op op_add pe_int (pcal GD hr pass0 (pa_cons (pv 1) (pa_cons pe_int pa_nil)))))) (pss_cons 
    (ps_set (i := 5) sc_law.nd rfl (Or.inl rfl) (pcal GL hr pass0 (pa_cons (pv 1) (pa_cons (pv 4) pa_nil)))) (C8.pss_cut 
    (ps_setLc (i := 6) (own := [("_law_j", 12)]) (g := gName 12) rfl sc_law.nd rfl rfl (sw_true rfl rfl rfl (by decide +kernel)) (pi_range1 (by rfl) nr (pa_cons (pv 4) pa_nil)) (blkOk_by (own := [("_law_j", 12)]) (N := ["_law_script", "_law_hand_here", "_law_turn", "_law_backs_here", "_law_many", "_law_guests", "_law_rows", "_law_k", "_law_kind", "_law_due_here", "_law_kept", "_law_told", "_law_j", "_law_i"]) (sc := defScope s_law) (by decide +kernel)) (fun _ _ _ _ _ => pg_name (i := 12) sc_law.nd rfl (Or.inl rfl)) (fun _ _ _ _ _ => pts_nil) (fun _ _ _ _ _ => (pe_lc (own := [("_law_i", 13)]) (g := gName 13) (by rfl) sc_law.nd (pi_range1 (by rfl) nr (pa_cons (pv 12) pa_nil)) (blkOk_by (own := [("_law_i", 13)]) (N := ["_law_script", "_law_hand_here", "_law_turn", "_law_backs_here", "_law_many", "_law_guests", "_law_rows", "_law_k", "_law_kind", "_law_due_here", "_law_kept", "_law_told", "_law_j", "_law_i"]) (by rfl)) (fun _ _ _ _ _ => pg_name (i := 13) sc_law.nd rfl (Or.inl rfl)) (fun _ _ _ _ _ => pts_nil) (fun _ _ _ _ _ => (pcal GD hr pass0 (pa_cons (pv 1) (pa_cons (pe_callB (id := "len") (r := rLen K) call_len_seq (by rfl) nl PySem.boot_len (pa_cons (pv 3) pa_nil)) pa_nil))))))) (C8.pss_cut 
    (ps_for PassesOwn.never rfl (pi_range1 (by rfl) nr (pa_cons (pcal GD hr pass0 (pa_cons (pv 1) (pa_cons pe_int pa_nil))) pa_nil)) (pg_name (i := 7) sc_law.nd rfl (Or.inl rfl)) (pss_one 
      (ps_if (PW.pt (pw_and (pt_cmpR (op_neE hr.units) (pv 5) (pe_lst pa_nil) (nomark _)) (pw_and1 (pt_cmpR (op_neE hr.units) (pv 6) (pe_lst pa_nil) (nomark _))))) (pss_one 
        (ps_if (pt_cmpR op_eq (pcal GD hr pass0 (pa_cons (pv 1) (pa_cons pe_int pa_nil))) pe_int (nomark _)) (pss_one 
          (ps_expr (pcal GSG hr pass0 (pa_cons (pv 1) (pa_cons (pv 5) pa_nil))))) (pss_one 
          (ps_expr (pcal GSR hr pass0 (pa_cons (pv 1) (pa_cons (pe_callB call_len_seq (by rfl) nl PySem.boot_len (pa_cons (pv 3) pa_nil)) (pa_cons (pv 6) pa_nil)))))))) pss_nil))) (pss_cons 
    (ps_set (i := 8) sc_law.nd rfl (Or.inl rfl) (pcal GD hr pass0 (pa_cons (pv 1) (pa_cons pe_int pa_nil)))) (C8.pss_cut 
    (ps_if (pt_cmpR op_eq (pv 8) pe_int (nomark _)) (pss_one (ps_set (i := 5) sc_law.nd rfl (Or.inl rfl) (pe_ix ix_list (pe_lst (pa_cons pe_non (pa_cons pe_str (pa_cons pe_int (pa_cons pe_dnewK pa_nil))))) (pcal GD hr pass0 (pa_cons (pv 1) (pa_cons pe_int pa_nil))) (fun _ _ => rfl)))) pss_nil) (C8.pss_cut 
    (ps_if (pt_cmpR op_eq (pv 8) pe_int (nomark _)) (pss_one (ps_set (i := 6) sc_law.nd rfl (Or.inl rfl) (pe_ix ix_list (pe_lst (pa_cons pe_non (pa_cons pe_str (pa_cons pe_int (pa_cons pe_dnewK pa_nil))))) (pcal GD hr pass0 (pa_cons (pv 1) (pa_cons pe_int pa_nil))) (fun _ _ => rfl)))) pss_nil) (pss_cons 
    (ps_set (i := 9) sc_law.nd rfl (Or.inl rfl) (pcal GU hr pass0 (pa_cons (pe_callB call_len_seq (by rfl) nl PySem.boot_len (pa_cons (pv 3) pa_nil)) (pa_cons (pv 5) (pa_cons (pv 6) pa_nil))))) (C8.pss_cut 
    (ps_set (i := 10) sc_law.nd rfl (Or.inl rfl) (pe_tup (pa_cons (pe_ifExp (pt_val (pe_callB call_isi (by rfl) nis (by decide +kernel) (pa_cons (pv 5) (pa_cons (pe_bltn (by rfl) nli (by decide +kernel) (v := .ty "list") rfl) pa_nil)))) (pe_callTy call_list_of (by rfl) nli (by decide +kernel) (pa_cons (pv 5) pa_nil)) (pv 5)) (pa_cons (pe_ifExp (pt_val (pe_callB call_isi (by rfl) nis (by decide +kernel) (pa_cons (pv 6) (pa_cons (pe_bltn (by rfl) nli (by decide +kernel) (v := .ty "list") rfl) pa_nil)))) (pcal GY hr pass0 (pa_cons (pv 6) pa_nil)) (pv 6)) pa_nil)))) (pss_cons 
    (ps_set (i := 11) sc_law.nd rfl (Or.inl rfl) (pcal GA hr pass0 (pa_cons (pv 3) (pa_cons (pv 5) (pa_cons (pv 6) pa_nil))))) (pss_cons 
    (ps_if (PW.pt (pw_or (pt_cmpR (op_neS hr.units) (pv 11) (pv 9) (nomark _)) (pw_or1 (PW.pt (pw_and (pt_cmpR op_notN (pv 11) pe_non (nomark _)) (pw_and1 (pt_val (pe_callB call_isi (by rfl) nis (by decide +kernel) (pa_cons (pe_ix ix_tup (pv 11) pe_int (fun _ _ => rfl)) (pa_cons (pe_bltn (by rfl) nb (by decide +kernel) (v := .ty "bool") rfl) pa_nil))))))))))
 (pss_one 
      (ps_ret pe_bl)) pss_nil) (pss_cons 
    (ps_if (PW.pt (pw_and (pt_val (pe_callB call_isi (by rfl) nis (by decide +kernel) (pa_cons (pv 5) (pa_cons (pe_bltn (by rfl) nli (by decide +kernel) (v := .ty "list") rfl) pa_nil)))) (pw_and1 (pt_cmpR (op_neL hr.units) (pv 5) (pe_ix ix_tup (pv 10) pe_int (fun _ _ => rfl)) (nomark _))))) (pss_one 
      (ps_ret pe_bl)) pss_nil) (pss_one 
    (ps_if (PW.pt (pw_and (pt_val (pe_callB call_isi (by rfl) nis (by decide +kernel) (pa_cons (pv 6) (pa_cons (pe_bltn (by rfl) nli (by decide +kernel) (v := .ty "list") rfl) pa_nil)))) (pw_and1 (pt_cmpR (op_neL hr.units) (pcal GY hr pass0 (pa_cons (pv 6) pa_nil)) (pe_ix ix_tup (pv 10) pe_int (fun _ _ => rfl)) (nomark _))))) (pss_one 
      (ps_ret pe_bl)) pss_nil)))))))))))))))) (pss_one 
  (ps_ret pe_bl)))), ?_⟩
    refine ⟨_, rfl, a, ns, rfl, hS, hn, fun H1 h q S1 nh nq hh => ?_⟩
    refine ⟨4, rfl, by decide, by decide, for_range (lo := 0) (n := 4) (fun i σ H' => ∃ (v2 v3 v4 v5 v6 v7 v8 v9 v10 v11 : Option V), σ = [some (.ref a), some (.ref h), v2, v3, v4, v5, v6, v7, v8, v9, v10, v11, none, none] ∧ Hand H' h q)
      ⟨none, none, none, none, none, none, none, none, none, none, rfl, hh⟩ ?_ ?_⟩
    · rintro i σ H2 hi ⟨v2, v3, v4, v5, v6, v7, v8, v9, v10, v11, rfl, h2⟩
      -- backs
      refine ⟨_, rfl, _, rfl, h, q, 3, rfl, by decide, by decide, h2, fun d H3 d0 d3 b3 h3 => ⟨_, _, rfl, rfl, h, q, 2 + d, rfl, by omega, by omega, h3, fun bs b H4 lb gb b4 nb eb h4 => ?_⟩⟩
      have hL3 : H4 b = some (.lst (bs.map V.int)) := eb
      obtain ⟨nbh, nbq⟩ := h3.same_h nb
      -- many
      refine ⟨fun σ' H' => ∃ m : Nat, σ' = [some (.ref a), some (.ref h), some (.int (0 + (i : Nat))), some (.ref b), some (.int (m : Nat)), v5, v6, v7, v8, v9, v10, v11, none, none] ∧ m ≤ 61 ∧ Hand H' h q ∧ H' b = some (.lst (bs.map V.int)), ?_, ?_⟩
      · refine ⟨_, rfl, h, q, 8, rfl, by decide, by decide, h4, fun c H5 c0 c8 b5 h5 => ⟨_, _, rfl, rfl, _, rfl, ?_⟩⟩
        have eb5 := b5 _ _ nbh eb
        refine ifD (fun cc => ?_) (fun cc => ?_)
        · refine ⟨_, rfl, h, q, 8, rfl, by decide, by decide, h5, fun m H6 m0 m8 b6 h6 => ⟨m.toNat, ?_, by omega, h6, b6 _ _ nbh eb5⟩⟩
          rw [Int.toNat_of_nonneg m0]
          rfl
        · refine ⟨_, rfl, h, q, 4, rfl, by decide, by decide, h5, fun m H6 m0 m8 b6 h6 => ⟨_, _, rfl, rfl, (58 + m).toNat, ?_, by omega, h6, b6 _ _ nbh eb5⟩⟩
          rw [Int.toNat_of_nonneg (by omega)]
          rfl
      rintro σ5 H5 ⟨m, rfl, m61, h5, eb5⟩
      -- labels
      refine ⟨_, rfl, _, rfl, h, q, m, rfl, by omega, h5, fun H6 l ls ll b6 h6 nl el => ?_⟩
      obtain ⟨nlh, nlq⟩ := h5.same_h nl
      have nlb : l ≠ b := (ne_of_none eb5 nl).symm
      have eb6 := b6 _ _ nbh eb5
      -- rows
      refine ⟨fun σ' H' => ∃ (r : Addr) (rs : List V), σ' = [some (.ref a), some (.ref h), some (.int (0 + (i : Nat))), some (.ref b), some (.int (m : Nat)), some (.ref l), some (.ref r), v7, v8, v9, v10, v11, none, none] ∧ Hand H' h q ∧ H' b = some (.lst (bs.map V.int)) ∧ H' l = some (.lst (ls.map V.int)) ∧ H' r = some (.lst rs) ∧ r ≠ h ∧ r ≠ q ∧ r ≠ b ∧ r ≠ l ∧ rs.length = m ∧ ∀ x ∈ rs, REl H' (Ex3 h l r) 61 x, ?_, ?_⟩
      · refine ⟨_, rfl, (m : Nat), rfl, by omega, by omega, fun D hD => ?_⟩
        obtain ⟨nDh, nDq⟩ := h6.same_h hD
        have nDb : D ≠ b := (ne_of_none eb6 hD).symm
        have nDl : D ≠ l := (ne_of_none el hD).symm
        refine lc_range (lo := 0) (n := m) (fun j H7 => ∃ rs : List V, rs.length = j ∧ H7 D = some (.lst rs) ∧ Hand H7 h q ∧ H7 b = some (.lst (bs.map V.int)) ∧ H7 l = some (.lst (ls.map V.int)) ∧ ∀ x ∈ rs, REl H7 (Ex3 h l D) 61 x)
          ⟨[], rfl, upd_same, h6.new hD, by rw [upd_ne nDb.symm]; exact eb6, by rw [upd_ne nDl.symm]; exact el, fun x hx => nomatch hx⟩ ?_ ?_
        · rintro j H7 hj ⟨rs, rl, eD, h7, eb7, el7, hrs⟩
          refine ⟨rfl, yesT ?_⟩
          refine ⟨_, rfl, ((j : Nat) : Int), by rw [Int.zero_add], by omega, by omega, fun D2 hD2 => ?_⟩
          obtain ⟨n2h, n2q⟩ := h7.same_h hD2
          have n2b : D2 ≠ b := (ne_of_none eb7 hD2).symm
          have n2l : D2 ≠ l := (ne_of_none el7 hD2).symm
          have n2D : D2 ≠ D := (ne_of_none eD hD2).symm
          have exD : ¬ Ex3 h l D D2 := fun e => by rcases e with e | e | e <;> contradiction
          refine lc_range (lo := 0) (n := j) (fun n H8 => ∃ zs : List Int, zs.length = n ∧ H8 D2 = some (.lst (zs.map V.int)) ∧ Hand H8 h q ∧ H8 b = some (.lst (bs.map V.int)) ∧ H8 l = some (.lst (ls.map V.int)) ∧ H8 D = some (.lst rs) ∧ ∀ x ∈ rs, REl H8 (Ex3 h l D) 61 x ∧ x ≠ .ref D2)
            ⟨[], rfl, upd_same, h7.new hD2, by rw [upd_ne n2b.symm]; exact eb7, by rw [upd_ne n2l.symm]; exact el7, by rw [upd_ne n2D.symm]; exact eD, fun x hx => ⟨(hrs x hx).fr (Fr.same (new_same hD2)), fun e => by
              rcases hrs x hx with z | ⟨a', e', _, ⟨ys, e2, _⟩ | ⟨kvs, e2⟩⟩
              · rw [e] at z; cases z
              · rw [e] at e'; injection e' with e'; rw [← e', hD2] at e2; cases e2
              · rw [e] at e'; injection e' with e'; rw [← e', hD2] at e2; cases e2⟩⟩ ?_ ?_
          · rintro n H8 hn ⟨zs, zl, eD2, h8, eb8, el8, eD8, hrs8⟩
            refine ⟨rfl, yesT ?_⟩
            have g2 := gb.lo
            have g4 := gb.hi
            have bl : (bs.map V.int).length = bs.length := List.length_map _
            refine ⟨_, rfl, _, rfl, b, _, rfl, .inl (SqL.of eb8), h, q, _, rfl, by omega, by omega, h8, fun z H9 z0 z1 b9 h9 => ?_⟩
            have eD29 := b9 _ _ n2h eD2
            refine ⟨_, eD29, by rw [List.length_map]; exact small1000 (by omega), zs ++ [z], by rw [List.length_append, zl]; rfl, by rw [upd_same, List.map_append]; rfl, h9.put n2h.symm n2q.symm, by rw [upd_ne n2b.symm]; exact b9 _ _ nbh eb8, by rw [upd_ne n2l.symm]; exact b9 _ _ nlh el8, by rw [upd_ne n2D.symm]; exact b9 _ _ nDh eD8, fun x hx => ⟨?_, (hrs8 x hx).2⟩⟩
            have q9 := (hrs8 x hx).1.fr (Fr.but b9 (Or.inl rfl))
            rcases q9 with z | ⟨a', e', n', ⟨ys, e2, q2⟩ | ⟨kvs, e2⟩⟩
            · exact .inl z
            · exact .inr ⟨a', e', n', .inl ⟨ys, by rw [upd_ne (fun w => (hrs8 x hx).2 (by rw [e', w]))]; exact e2, q2⟩⟩
            · exact .inr ⟨a', e', n', .inr ⟨kvs, by rw [upd_ne (fun w => (hrs8 x hx).2 (by rw [e', w]))]; exact e2⟩⟩
          · rintro H8 ⟨zs, zl, eD2, h8, eb8, el8, eD8, hrs8⟩
            have FD : ∀ (ys : List V), Fr (Ex3 h l D) H8 (upd H8 D (.lst ys)) := fun ys => Fr.put (Or.inr (Or.inr rfl))
            refine ⟨rs, eD8, small1000 (by omega), rs ++ [.ref D2], by rw [List.length_append, rl]; rfl, upd_same, h8.put nDh.symm nDq.symm, by rw [upd_ne nDb.symm]; exact eb8, by rw [upd_ne nDl.symm]; exact el8, fun x hx => ?_⟩
            rcases List.mem_append.mp hx with hx | hx
            · exact (hrs8 x hx).1.fr (FD _)
            · rw [List.mem_singleton] at hx
              subst hx
              refine .inr ⟨D2, rfl, exD, .inl ⟨_, FD _ _ _ exD eD2, fun y hy => ?_, by rw [List.length_map]; omega⟩⟩
              obtain ⟨n, _, rfl⟩ := List.mem_map.mp hy
              rfl
        · rintro H7 ⟨rs, rl, eD, h7, eb7, el7, hrs⟩
          exact ⟨D, rs, rfl, h7, eb7, el7, eD, nDh, nDq, nDb, nDl, rl, hrs⟩
      rintro σ7 H7 ⟨r, rs, rfl, h7, eb7, el7, er7, nrh, nrq, nrb, nrl, rl, hrs⟩
      have exh : Ex3 h l r h := Or.inl rfl
      have exl : Ex3 h l r l := Or.inr (Or.inl rfl)
      have exr : Ex3 h l r r := Or.inr (Or.inr rfl)
      -- spoilt
      refine ⟨fun σ' H' => ∃ (v7 : Option V) (gs rs : List V), σ' = [some (.ref a), some (.ref h), some (.int (0 + (i : Nat))), some (.ref b), some (.int (m : Nat)), some (.ref l), some (.ref r), v7, v8, v9, v10, v11, none, none] ∧ Hand H' h q ∧ H' b = some (.lst (bs.map V.int)) ∧ H' l = some (.lst gs) ∧ H' r = some (.lst rs) ∧ gs.length ≤ 1000 ∧ rs.length ≤ 1000 ∧ (∀ x ∈ gs, GEl H' (Ex3 h l r) x) ∧ ∀ x ∈ rs, REl H' (Ex3 h l r) 100 x, ?_, ?_⟩
      · refine ⟨_, rfl, h, q, 3, rfl, by decide, by decide, h7, fun n H8 n0 n3 b8 h8 => ⟨n, rfl, by omega, by omega, for_range (lo := 0) (n := n.toNat) (fun k σ' H' => ∃ (v7 : Option V) (gs rs : List V), σ' = [some (.ref a), some (.ref h), some (.int (0 + (i : Nat))), some (.ref b), some (.int (m : Nat)), some (.ref l), some (.ref r), v7, v8, v9, v10, v11, none, none] ∧ Hand H' h q ∧ H' b = some (.lst (bs.map V.int)) ∧ H' l = some (.lst gs) ∧ H' r = some (.lst rs) ∧ gs.length ≤ 61 ∧ rs.length ≤ 61 + k ∧ (∀ x ∈ gs, GEl H' (Ex3 h l r) x) ∧ ∀ x ∈ rs, REl H' (Ex3 h l r) (61 + k) x)
          ⟨v7, _, rs, rfl, h8, b8 _ _ nbh eb7, b8 _ _ nlh el7, b8 _ _ nrh er7, by rw [List.length_map]; omega, by omega, fun x hx => by
            obtain ⟨n, _, rfl⟩ := List.mem_map.mp hx
            exact .inl rfl, fun x hx => (hrs x hx).fr (Fr.but b8 exh)⟩ ?_ ?_⟩⟩
        · rintro kk σ H9 hk ⟨v7, gs, rs, rfl, h9, eb9, el9, er9, gl, rl, hg, hr9⟩
          have next : ∀ (H' : Hp), Same H9 H' → ∃ (v7' : Option V) (gs rs : List V), ([some (.ref a), some (.ref h), some (.int (0 + (i : Nat))), some (.ref b), some (.int (m : Nat)), some (.ref l), some (.ref r), some (.int (0 + (kk : Nat))), v8, v9, v10, v11, none, none] : List (Option V)) = [some (.ref a), some (.ref h), some (.int (0 + (i : Nat))), some (.ref b), some (.int (m : Nat)), some (.ref l), some (.ref r), v7', v8, v9, v10, v11, none, none] ∧ Hand H' h q ∧ H' b = some (.lst (bs.map V.int)) ∧ H' l = some (.lst gs) ∧ H' r = some (.lst rs) ∧ gs.length ≤ 61 ∧ rs.length ≤ 61 + (kk + 1) ∧ (∀ x ∈ gs, GEl H' (Ex3 h l r) x) ∧ ∀ x ∈ rs, REl H' (Ex3 h l r) (61 + (kk + 1)) x := fun H' S =>
            ⟨_, gs, rs, rfl, h9.keep S, S _ _ eb9, S _ _ el9, S _ _ er9, gl, by omega, fun x hx => (hg x hx).fr (Fr.same S), fun x hx => ((hr9 x hx).fr (Fr.same S)).le (by omega)⟩
          refine ⟨_, rfl, (by show 0 ≤ sizeLine; decide), fun p1 hp1 => ?_⟩
          have T1 : Same H9 (upd H9 p1 (.lst [])) := new_same hp1
          have ep1 : (upd H9 p1 (.lst [])) p1 = some (.lst []) := upd_same
          generalize upd H9 p1 (.lst []) = HA at T1 ep1
          refine ⟨l, p1, gs, rfl, rfl, SqL.of (T1 _ _ el9), SqL.of ep1, _, rfl, ?_⟩
          cases gs with
          | nil => exact iteF (next HA T1)
          | cons g0 gs =>
          refine iteT ⟨_, rfl, (by show 0 ≤ sizeLine; decide), fun p2 hp2 => ?_⟩
          have T2 : Same HA (upd HA p2 (.lst [])) := new_same hp2
          have ep2 : (upd HA p2 (.lst [])) p2 = some (.lst []) := upd_same
          generalize upd HA p2 (.lst []) = HB at T2 ep2
          have T12 := T1.trans T2
          refine ⟨r, p2, rs, rfl, rfl, SqL.of (T12 _ _ er9), SqL.of ep2, _, rfl, ?_⟩
          cases rs with
          | nil => exact iteF (next HB T12)
          | cons r0 rs =>
          refine iteT ⟨_, rfl, h, q, 2, rfl, by decide, by decide, h9.keep T12, fun c HC c0 c2 bC hC => ⟨rfl, _, rfl, ?_⟩⟩
          have ebC := bC _ _ nbh (T12 _ _ eb9)
          have elC := bC _ _ nlh (T12 _ _ el9)
          have erC := bC _ _ nrh (T12 _ _ er9)
          have hgC : ∀ x ∈ g0 :: gs, GEl HC (Ex3 h l r) x := fun x hx => ((hg x hx).fr (Fr.same T12)).fr (Fr.but bC exh)
          have hrC : ∀ x ∈ r0 :: rs, REl HC (Ex3 h l r) (61 + kk) x := fun x hx => ((hr9 x hx).fr (Fr.same T12)).fr (Fr.but bC exh)
          have exa : ∀ x, Ex3 h l r x → ∃ o, HC x = some o := fun x hx => by
            rcases hx with rfl | rfl | rfl
            · obtain ⟨⟨ys, e⟩, _⟩ := hC.h_at
              exact ⟨_, e⟩
            · exact ⟨_, elC⟩
            · exact ⟨_, erC⟩
          refine ifD (fun cc => ?_) (fun cc => ?_)
          · refine ⟨_, rfl, _, rfl, h, l, q, Ex3 h l r, _, rfl, hC, exh, exl, nlh, nlq, exa, elC, (fun z => nomatch z), by omega, hgC, fun HD gs' BD hD elD leD gD => ?_⟩
            have FD : Fr (Ex3 h l r) HC HD := fun b o n e => BD b o (fun z => n (Or.inl z)) (fun z => n (Or.inr (Or.inl z))) e
            exact ⟨_, gs', _, rfl, hD, BD _ _ nbh nlb.symm ebC, elD, BD _ _ nrh nrl erC, by omega, by omega, gD, fun x hx => ((hrC x hx).fr FD).le (by omega)⟩
          · refine ⟨_, rfl, _, rfl, b, _, rfl, .inl (SqL.of ebC), _, rfl, h, r, q, _, Ex3 h l r, 61 + kk, _, rfl, hC, exh, exr, nrh, nrq, exa, erC, (fun z => nomatch z), by omega, by omega, by omega, hrC, fun HD rs' BD hD erD leD rD => ?_⟩
            have FD : Fr (Ex3 h l r) HC HD := fun b o n e => BD b o (fun z => n (Or.inl z)) (fun z => n (Or.inr (Or.inr z))) e
            exact ⟨_, _, rs', rfl, hD, BD _ _ nbh nrb.symm ebC, BD _ _ nlh nrl.symm elC, erD, gl, by omega, fun x hx => (hgC x hx).fr FD, rD⟩
        · rintro σ H9 ⟨v7, gs, rs, rfl, h9, eb9, el9, er9, gl, rl, hg, hr9⟩
          exact ⟨v7, gs, rs, rfl, h9, eb9, el9, er9, by omega, by omega, hg, fun x hx => (hr9 x hx).le (by omega)⟩
      clear hrs rl er7 el7 eb7 h7 rs v7
      rintro σ8 H8 ⟨v7, gs, rs, rfl, h8, eb8, el8, er8, gl, rl, hg, hr8⟩
      -- MARK3
      refine ⟨_, rfl, h, q, 16, rfl, by decide, by decide, h8, fun ck H9 ck0 ck1 b9 h9 => ?_⟩
      have eb9 := b9 _ _ nbh eb8
      have er9 := b9 _ _ nrh er8
      have gg9 : GG (Ex3 h l r) h H9 (.ref l) (.lst gs) := .lst nlh (b9 _ _ nlh el8) gl fun x hx => (hg x hx).fr (Fr.but b9 exh)
      have hr9 : ∀ x ∈ rs, REl H9 (Ex3 h l r) 100 x := fun x hx => (hr8 x hx).fr (Fr.but b9 exh)
      clear hr8 hg er8 el8 eb8
      -- guests put in their place
      refine ⟨fun σ' H' => ∃ (g : V) (sg : Sh), σ' = [some (.ref a), some (.ref h), some (.int (0 + (i : Nat))), some (.ref b), some (.int (m : Nat)), some g, some (.ref r), v7, some (.int ck), v9, v10, v11, none, none] ∧ Hand H' h q ∧ H' b = some (.lst (bs.map V.int)) ∧ GG (Ex3 h l r) h H' g sg ∧ RR (Ex3 h l r) h H' (.ref r) (.lst rs), ?_, ?_⟩
      · refine ⟨_, rfl, rfl, _, rfl, ?_⟩
        have rr9 : RR (Ex3 h l r) h H9 (.ref r) (.lst rs) := .lst nrh er9 rl hr9
        refine ifD (fun c => ?_) (fun c => ⟨_, _, rfl, h9, eb9, gg9, rr9⟩)
        refine fun z hz => ⟨(by show 4 ≤ sizeLine; decide), fun p hp => ?_⟩
        have Sa : Same H9 (upd H9 z (.dK [])) := new_same hz
        have ez : (upd H9 z (.dK [])) z = some (.dK []) := upd_same
        have nzh : z ≠ h := (h9.same_h hz).1
        generalize upd H9 z (.dK []) = Ha at Sa ez hp
        have Sb : Same Ha (upd Ha p (.lst (odd4 z))) := new_same hp
        have ep : (upd Ha p (.lst (odd4 z))) p = some (.lst (odd4 z)) := upd_same
        show tCons _ _ _ (upd Ha p (.lst (odd4 z))) _
        generalize upd Ha p (.lst (odd4 z)) = Hb at Sb ep
        have hb := (h9.keep Sa).keep Sb
        have nph : p ≠ h := ((h9.keep Sa).same_h hp).1
        refine ⟨_, rfl, h, q, 4, rfl, by decide, by decide, hb, fun v HC v0 v8 bC hC => ?_⟩
        have epC := bC _ _ nph ep
        have hv : v.toNat < (odd4 z).length := by
          show v.toNat < 4
          omega
        have hy := List.getElem?_eq_getElem hv
        have hm := odd4_all z _ (List.getElem_mem hv)
        generalize (odd4 z)[v.toNat] = y at hy hm
        have FC : Fr (Ex3 h l r) H9 HC := ((Fr.same Sa).trans (Fr.same Sb)).trans (Fr.but bC exh)
        have ezC := bC _ _ nzh (Sb _ _ ez)
        have st : ∀ b o, b ≠ h → H9 b = some o → HC b = some o := fun b o nb e => bC b o nb (Sb _ _ (Sa _ _ e))
        refine ⟨p, _, v, y, rfl, rfl, SqL.of epC, at_of (j := v.toNat) (by omega) hy, ?_⟩
        have rrC : RR (Ex3 h l r) h HC (.ref r) (.lst rs) := .lst nrh (st _ _ nrh er9) rl fun x hx => (hr9 x hx).fr FC
        rcases hm with hm | rfl
        · exact ⟨_, _, rfl, hC, st _ _ nbh eb9, .sc hm, rrC⟩
        · exact ⟨_, _, rfl, hC, st _ _ nbh eb9, .dk nzh ezC, rrC⟩
      clear gg9 hr9 er9 eb9 h9 b9
      rintro σ9 H9 ⟨g, sg, rfl, h9, eb9, gg9, rr9⟩
      -- rows put in their place
      refine ⟨fun σ' H' => ∃ (rv : V) (sr : Sh), σ' = [some (.ref a), some (.ref h), some (.int (0 + (i : Nat))), some (.ref b), some (.int (m : Nat)), some g, some rv, v7, some (.int ck), v9, v10, v11, none, none] ∧ Hand H' h q ∧ H' b = some (.lst (bs.map V.int)) ∧ GG (Ex3 h l r) h H' g sg ∧ RR (Ex3 h l r) h H' rv sr, ?_, ?_⟩
      · refine ⟨_, rfl, rfl, _, rfl, ?_⟩
        refine ifD (fun c => ?_) (fun c => ⟨_, _, rfl, h9, eb9, gg9, rr9⟩)
        refine fun z hz => ⟨(by show 4 ≤ sizeLine; decide), fun p hp => ?_⟩
        have Sa : Same H9 (upd H9 z (.dK [])) := new_same hz
        have ez : (upd H9 z (.dK [])) z = some (.dK []) := upd_same
        have nzh : z ≠ h := (h9.same_h hz).1
        generalize upd H9 z (.dK []) = Ha at Sa ez hp
        have Sb : Same Ha (upd Ha p (.lst (odd4 z))) := new_same hp
        have ep : (upd Ha p (.lst (odd4 z))) p = some (.lst (odd4 z)) := upd_same
        show tCons _ _ _ (upd Ha p (.lst (odd4 z))) _
        generalize upd Ha p (.lst (odd4 z)) = Hb at Sb ep
        have hb := (h9.keep Sa).keep Sb
        have nph : p ≠ h := ((h9.keep Sa).same_h hp).1
        refine ⟨_, rfl, h, q, 4, rfl, by decide, by decide, hb, fun v HC v0 v8 bC hC => ?_⟩
        have epC := bC _ _ nph ep
        have hv : v.toNat < (odd4 z).length := by
          show v.toNat < 4
          omega
        have hy := List.getElem?_eq_getElem hv
        have hm := odd4_all z _ (List.getElem_mem hv)
        generalize (odd4 z)[v.toNat] = y at hy hm
        have FC : Fr (Ex3 h l r) H9 HC := ((Fr.same Sa).trans (Fr.same Sb)).trans (Fr.but bC exh)
        have ezC := bC _ _ nzh (Sb _ _ ez)
        have st : ∀ b o, b ≠ h → H9 b = some o → HC b = some o := fun b o nb e => bC b o nb (Sb _ _ (Sa _ _ e))
        refine ⟨p, _, v, y, rfl, rfl, SqL.of epC, at_of (j := v.toNat) (by omega) hy, ?_⟩
        have ggC : GG (Ex3 h l r) h HC g sg := by
          cases gg9 with
          | sc a => exact .sc a
          | dk n a => exact .dk n (st _ _ n a)
          | lst n a b' c' => exact .lst n (st _ _ n a) b' fun x hx => (c' x hx).fr FC
        rcases hm with hm | rfl
        · exact ⟨_, _, rfl, hC, st _ _ nbh eb9, ggC, .sc hm⟩
        · exact ⟨_, _, rfl, hC, st _ _ nbh eb9, ggC, .dk nzh ezC⟩
      clear rr9 gg9 eb9 h9
      rintro σ10 H9 ⟨rv, sr, rfl, h9, eb9, gg9, rr9⟩
      have gk := gg9.gk
      obtain ⟨ss, rk⟩ := rr9.rk
      clear rr9 gg9
      -- due
      refine ⟨_, rfl, b, _, rfl, .inl (SqL.of eb9), _, rfl, _, rfl, (bs.map V.int).length, g, rv, sg, sr, ss, rfl, gk.i, gk.k, rk.i, rk.a, gk.t, rk.t, rk.ts, gk.l, fun HA dv SA hd => ?_⟩
      rw [List.length_map] at hd
      have hA := h9.keep SA
      have ebA := SA _ _ eb9
      have gkA := gk.keep SA
      have rkA := rk.keep SA
      -- kept
      refine ⟨fun σ' H' => ∃ (t : Addr) (k0 k1 : V), σ' = [some (.ref a), some (.ref h), some (.int (0 + (i : Nat))), some (.ref b), some (.int (m : Nat)), some g, some rv, v7, some (.int ck), some dv, some (.ref t), v11, none, none] ∧ Same HA H' ∧ H' t = some (.tup [k0, k1]) ∧ (∀ gs, sg = .lst gs → ∃ z, k0 = .ref z ∧ H' z = some (.lst gs)) ∧ (∀ rs, sr = .lst rs → ∃ z cs, k1 = .ref z ∧ H' z = some (.lst cs) ∧ CopyAll H' rs ss cs), ?_, ?_⟩
      · obtain ⟨t1, ht1, _, _, kl1, _⟩ := gkA.i.ty (K := K)
        refine ⟨_, rfl, _, _, _, _, _, rfl, .ty "list", ht1, kit_ty kl1, _, rfl, ?_⟩
        have fin : ∀ (H' : Hp) (k0 k1 : V), Same HA H' → (∀ gs, sg = .lst gs → ∃ z, k0 = .ref z ∧ H' z = some (.lst gs)) → (∀ rs, sr = .lst rs → ∃ z cs, k1 = .ref z ∧ H' z = some (.lst cs) ∧ CopyAll H' rs ss cs) → ∀ t, H' t = none → ∃ (t' : Addr) (w0 w1 : V), ([some (.ref a), some (.ref h), some (.int (0 + (i : Nat))), some (.ref b), some (.int (m : Nat)), some g, some rv, v7, some (.int ck), some dv, some (.ref t), v11, none, none] : List (Option V)) = [some (.ref a), some (.ref h), some (.int (0 + (i : Nat))), some (.ref b), some (.int (m : Nat)), some g, some rv, v7, some (.int ck), some dv, some (.ref t'), v11, none, none] ∧ Same HA (upd H' t (.tup [k0, k1])) ∧ (upd H' t (.tup [k0, k1])) t' = some (.tup [w0, w1]) ∧ (∀ gs, sg = .lst gs → ∃ z, w0 = .ref z ∧ (upd H' t (.tup [k0, k1])) z = some (.lst gs)) ∧ (∀ rs, sr = .lst rs → ∃ z cs, w1 = .ref z ∧ (upd H' t (.tup [k0, k1])) z = some (.lst cs) ∧ CopyAll (upd H' t (.tup [k0, k1])) rs ss cs) := fun H' k0 k1 S c0 c1 t ht => by
          have St : Same H' (upd H' t (.tup [k0, k1])) := new_same ht
          exact ⟨t, k0, k1, rfl, S.trans St, upd_same, fun gs e => by obtain ⟨z, a, b⟩ := c0 gs e; exact ⟨z, a, St _ _ b⟩, fun rs e => by obtain ⟨z, cs, a, b, c⟩ := c1 rs e; exact ⟨z, cs, a, St _ _ b, c.keep St⟩⟩
        cases sg with
        | sc u =>
          refine iteF ⟨_, rfl, ?_⟩
          have cx : ∀ gs, (Sh.sc u : Sh) = .lst gs → ∃ z, g = V.ref z ∧ HA z = some (.lst gs) := (fun gs e => nomatch e)
          obtain ⟨t2, ht2, _, _, kl2, _⟩ := (rkA.i.keep (Same.refl HA)).ty (K := K)
          refine ⟨_, rfl, _, _, _, _, _, rfl, .ty "list", ht2, kit_ty kl2, _, rfl, ?_⟩
          cases sr with
          | sc u => exact iteF ⟨_, rfl, (by show 2 ≤ sizeLine; decide), fin HA _ _ (Same.refl HA) cx (fun rs e => nomatch e)⟩
          | dk => exact iteF ⟨_, rfl, (by show 2 ≤ sizeLine; decide), fin HA _ _ (Same.refl HA) cx (fun rs e => nomatch e)⟩
          | tup rs => exact nomatch rk.t
          | lst rs2 =>
            obtain ⟨pr, rfl, er⟩ := rkA.i
            refine iteT ⟨_, rfl, pr, rs2, ss, rfl, (Same.refl HA) _ _ er, rkA.a.keep (Same.refl HA), rk.l, fun HY z cs SY _ ez ca => ⟨(by show 2 ≤ sizeLine; decide), fin HY _ _ ((Same.refl HA).trans SY) (fun gs e => by obtain ⟨z', a', b'⟩ := cx gs e; exact ⟨z', a', SY _ _ b'⟩) (fun rs e => by injection e with e; subst e; exact ⟨z, cs, rfl, ez, ca⟩)⟩⟩
        | dk =>
          refine iteF ⟨_, rfl, ?_⟩
          have cx : ∀ gs, (Sh.dk : Sh) = .lst gs → ∃ z, g = V.ref z ∧ HA z = some (.lst gs) := (fun gs e => nomatch e)
          obtain ⟨t2, ht2, _, _, kl2, _⟩ := (rkA.i.keep (Same.refl HA)).ty (K := K)
          refine ⟨_, rfl, _, _, _, _, _, rfl, .ty "list", ht2, kit_ty kl2, _, rfl, ?_⟩
          cases sr with
          | sc u => exact iteF ⟨_, rfl, (by show 2 ≤ sizeLine; decide), fin HA _ _ (Same.refl HA) cx (fun rs e => nomatch e)⟩
          | dk => exact iteF ⟨_, rfl, (by show 2 ≤ sizeLine; decide), fin HA _ _ (Same.refl HA) cx (fun rs e => nomatch e)⟩
          | tup rs => exact nomatch rk.t
          | lst rs2 =>
            obtain ⟨pr, rfl, er⟩ := rkA.i
            refine iteT ⟨_, rfl, pr, rs2, ss, rfl, (Same.refl HA) _ _ er, rkA.a.keep (Same.refl HA), rk.l, fun HY z cs SY _ ez ca => ⟨(by show 2 ≤ sizeLine; decide), fin HY _ _ ((Same.refl HA).trans SY) (fun gs e => by obtain ⟨z', a', b'⟩ := cx gs e; exact ⟨z', a', SY _ _ b'⟩) (fun rs e => by injection e with e; subst e; exact ⟨z, cs, rfl, ez, ca⟩)⟩⟩
        | tup gs => exact nomatch gk.t
        | lst gs2 =>
          obtain ⟨pg, rfl, eg⟩ := gkA.i
          refine iteT ⟨_, rfl, pg, gs2, rfl, .inl (SqL.of eg), fun z0 hz0 => ?_⟩
          have T0 : Same HA (upd HA z0 (.lst gs2)) := new_same hz0
          have ez0 : (upd HA z0 (.lst gs2)) z0 = some (.lst gs2) := upd_same
          generalize upd HA z0 (.lst gs2) = HT at T0 ez0
          have cx : ∀ gs, (Sh.lst gs2 : Sh) = .lst gs → ∃ z, (V.ref z0) = V.ref z ∧ HT z = some (.lst gs) := (fun gs e => by injection e with e; subst e; exact ⟨z0, rfl, ez0⟩)
          obtain ⟨t2, ht2, _, _, kl2, _⟩ := (rkA.i.keep T0).ty (K := K)
          refine ⟨_, rfl, _, _, _, _, _, rfl, .ty "list", ht2, kit_ty kl2, _, rfl, ?_⟩
          cases sr with
          | sc u => exact iteF ⟨_, rfl, (by show 2 ≤ sizeLine; decide), fin HT _ _ T0 cx (fun rs e => nomatch e)⟩
          | dk => exact iteF ⟨_, rfl, (by show 2 ≤ sizeLine; decide), fin HT _ _ T0 cx (fun rs e => nomatch e)⟩
          | tup rs => exact nomatch rk.t
          | lst rs2 =>
            obtain ⟨pr, rfl, er⟩ := rkA.i
            refine iteT ⟨_, rfl, pr, rs2, ss, rfl, T0 _ _ er, rkA.a.keep T0, rk.l, fun HY z cs SY _ ez ca => ⟨(by show 2 ≤ sizeLine; decide), fin HY _ _ (T0.trans SY) (fun gs e => by obtain ⟨z', a', b'⟩ := cx gs e; exact ⟨z', a', SY _ _ b'⟩) (fun rs e => by injection e with e; subst e; exact ⟨z, cs, rfl, ez, ca⟩)⟩⟩
      rintro σ11 HB ⟨t, k0, k1, rfl, SB, et, c0, c1⟩
      have SAB := SA.trans SB
      -- told
      refine ⟨_, rfl, _, rfl, _, rfl, b, bs, g, rv, sg, sr, ss, rfl, SB _ _ ebA, gb, (gkA.keep SB).i, (gkA.keep SB).k, (rkA.keep SB).i, (rkA.keep SB).a, gk.t, rk.t, rk.ts, gk.l, fun HD tv SD hd2 => ?_⟩
      have hD := (hA.keep SB).keep SD
      have gkD := (gkA.keep SB).keep SD
      have rkD := (rkA.keep SB).keep SD
      have etD := SD _ _ et
      have sames : (tv = .non ∧ dv = .non) ∨ ∃ (x y : Addr) (j : Int) (u : Str), tv = .ref x ∧ dv = .ref y ∧ HD x = some (.tup [.int j, .str u]) ∧ HD y = some (.tup [.int j, .str u]) := by
        cases e : dueC bs.length sg sr ss with
        | none =>
          rw [e] at hd hd2
          exact .inl ⟨hd2, hd⟩
        | some p =>
          obtain ⟨j, u⟩ := p
          rw [e] at hd hd2
          obtain ⟨x, e1, e2⟩ := hd2
          obtain ⟨y, e3, e4⟩ := hd
          exact .inr ⟨x, y, j, u, e1, e3, e2, SD _ _ (SB _ _ e4)⟩
      have sames2 : tv = .non ∨ ∃ (x : Addr) (j : Int) (u : Str), tv = .ref x ∧ HD x = some (.tup [.int j, .str u]) := by
        rcases sames with h | ⟨x, y, j, u, e, _, e1, _⟩
        · exact .inl h.1
        · exact .inr ⟨x, j, u, e, e1⟩
      refine ⟨_, rfl, _, rfl, ?_, ?_⟩
      · rcases sames with h | ⟨x, y, j, u, rfl, rfl, e1, e2⟩
        · exact .inl h
        · exact .inr ⟨x, y, _, rfl, rfl, SqT.of e1, SqT.of e2, fun z hz => by
            simp only [List.mem_cons, List.not_mem_nil, or_false] at hz
            rcases hz with rfl | rfl <;> rfl⟩
      refine ⟨_, rfl, iteF ?_⟩
      refine ⟨_, rfl, rfl, _, rfl, ?_⟩
      clear sames
      rcases sames2 with etv | ⟨x, j, u, etv, e1⟩
      · subst etv
        refine iteF ?_
        obtain ⟨t1, ht1, _, _, kl1, _⟩ := gkD.i.ty (K := K)
        refine ⟨_, rfl, _, _, _, _, _, rfl, .ty "list", ht1, kit_ty kl1, _, rfl, ?_⟩
        cases sg with
        | sc u =>
          refine iteF ?_
          obtain ⟨t2, ht2, _, _, kl2, _⟩ := rkD.i.ty (K := K)
          refine ⟨_, rfl, _, _, _, _, _, rfl, .ty "list", ht2, kit_ty kl2, _, rfl, ?_⟩
          cases sr with
          | sc u => exact iteF ⟨_, _, _, _, _, _, _, _, _, _, rfl, hD⟩
          | dk => exact iteF ⟨_, _, _, _, _, _, _, _, _, _, rfl, hD⟩
          | tup rs => exact nomatch rk.t
          | lst rs2 =>
            obtain ⟨pr, rfl, er⟩ := rkD.i
            obtain ⟨z1, cs, rfl, ezc, ca⟩ := c1 rs2 rfl
            refine iteT ⟨_, rfl, pr, rs2, ss, rfl, er, rkD.a, rk.l, fun HE z2 cs2 SE _ ez2 ca2 => ?_⟩
            refine ⟨_, rfl, _, _, _, _, rfl, rfl, SqT.of (SE _ _ etD), at_of (j := 1) (v := .ref z1) rfl rfl, z2, z1, cs2, cs, rfl, rfl, SqL.of ez2, SqL.of (SE _ _ (SD _ _ ezc)), copies_same rk.f (rkD.a.keep SE) ca2 ((ca.keep SD).keep SE), _, rfl, iteF ⟨_, _, _, _, _, _, _, _, _, _, rfl, hD.keep SE⟩⟩
        | dk =>
          refine iteF ?_
          obtain ⟨t2, ht2, _, _, kl2, _⟩ := rkD.i.ty (K := K)
          refine ⟨_, rfl, _, _, _, _, _, rfl, .ty "list", ht2, kit_ty kl2, _, rfl, ?_⟩
          cases sr with
          | sc u => exact iteF ⟨_, _, _, _, _, _, _, _, _, _, rfl, hD⟩
          | dk => exact iteF ⟨_, _, _, _, _, _, _, _, _, _, rfl, hD⟩
          | tup rs => exact nomatch rk.t
          | lst rs2 =>
            obtain ⟨pr, rfl, er⟩ := rkD.i
            obtain ⟨z1, cs, rfl, ezc, ca⟩ := c1 rs2 rfl
            refine iteT ⟨_, rfl, pr, rs2, ss, rfl, er, rkD.a, rk.l, fun HE z2 cs2 SE _ ez2 ca2 => ?_⟩
            refine ⟨_, rfl, _, _, _, _, rfl, rfl, SqT.of (SE _ _ etD), at_of (j := 1) (v := .ref z1) rfl rfl, z2, z1, cs2, cs, rfl, rfl, SqL.of ez2, SqL.of (SE _ _ (SD _ _ ezc)), copies_same rk.f (rkD.a.keep SE) ca2 ((ca.keep SD).keep SE), _, rfl, iteF ⟨_, _, _, _, _, _, _, _, _, _, rfl, hD.keep SE⟩⟩
        | tup gs => exact nomatch gk.t
        | lst gs2 =>
          obtain ⟨pg, rfl, eg⟩ := gkD.i
          obtain ⟨z0, rfl, ezg⟩ := c0 gs2 rfl
          refine iteT ⟨_, rfl, _, rfl, _, _, _, _, rfl, rfl, SqT.of etD, at_of (j := 0) (v := .ref z0) rfl rfl, pg, z0, gs2, gs2, rfl, rfl, SqL.of eg, SqL.of (SD _ _ ezg), paired_of rfl (fun j x y e1 e2 => by rw [e1] at e2; obtain rfl := Option.some.inj e2; exact (gk.f x (List.mem_of_getElem? e1)).same), _, rfl, iteF ?_⟩
          obtain ⟨t2, ht2, _, _, kl2, _⟩ := rkD.i.ty (K := K)
          refine ⟨_, rfl, _, _, _, _, _, rfl, .ty "list", ht2, kit_ty kl2, _, rfl, ?_⟩
          cases sr with
          | sc u => exact iteF ⟨_, _, _, _, _, _, _, _, _, _, rfl, hD⟩
          | dk => exact iteF ⟨_, _, _, _, _, _, _, _, _, _, rfl, hD⟩
          | tup rs => exact nomatch rk.t
          | lst rs2 =>
            obtain ⟨pr, rfl, er⟩ := rkD.i
            obtain ⟨z1, cs, rfl, ezc, ca⟩ := c1 rs2 rfl
            refine iteT ⟨_, rfl, pr, rs2, ss, rfl, er, rkD.a, rk.l, fun HE z2 cs2 SE _ ez2 ca2 => ?_⟩
            refine ⟨_, rfl, _, _, _, _, rfl, rfl, SqT.of (SE _ _ etD), at_of (j := 1) (v := .ref z1) rfl rfl, z2, z1, cs2, cs, rfl, rfl, SqL.of ez2, SqL.of (SE _ _ (SD _ _ ezc)), copies_same rk.f (rkD.a.keep SE) ca2 ((ca.keep SD).keep SE), _, rfl, iteF ⟨_, _, _, _, _, _, _, _, _, _, rfl, hD.keep SE⟩⟩
      · subst etv
        refine iteT ⟨_, rfl, _, _, _, _, rfl, rfl, SqT.of e1, at_of (j := 0) (v := .int j) rfl rfl, _, _, _, _, _, rfl, .ty "bool", .base (.int j), kit_ty kt_int_bool, _, rfl, iteF ?_⟩
        obtain ⟨t1, ht1, _, _, kl1, _⟩ := gkD.i.ty (K := K)
        refine ⟨_, rfl, _, _, _, _, _, rfl, .ty "list", ht1, kit_ty kl1, _, rfl, ?_⟩
        cases sg with
        | sc u =>
          refine iteF ?_
          obtain ⟨t2, ht2, _, _, kl2, _⟩ := rkD.i.ty (K := K)
          refine ⟨_, rfl, _, _, _, _, _, rfl, .ty "list", ht2, kit_ty kl2, _, rfl, ?_⟩
          cases sr with
          | sc u => exact iteF ⟨_, _, _, _, _, _, _, _, _, _, rfl, hD⟩
          | dk => exact iteF ⟨_, _, _, _, _, _, _, _, _, _, rfl, hD⟩
          | tup rs => exact nomatch rk.t
          | lst rs2 =>
            obtain ⟨pr, rfl, er⟩ := rkD.i
            obtain ⟨z1, cs, rfl, ezc, ca⟩ := c1 rs2 rfl
            refine iteT ⟨_, rfl, pr, rs2, ss, rfl, er, rkD.a, rk.l, fun HE z2 cs2 SE _ ez2 ca2 => ?_⟩
            refine ⟨_, rfl, _, _, _, _, rfl, rfl, SqT.of (SE _ _ etD), at_of (j := 1) (v := .ref z1) rfl rfl, z2, z1, cs2, cs, rfl, rfl, SqL.of ez2, SqL.of (SE _ _ (SD _ _ ezc)), copies_same rk.f (rkD.a.keep SE) ca2 ((ca.keep SD).keep SE), _, rfl, iteF ⟨_, _, _, _, _, _, _, _, _, _, rfl, hD.keep SE⟩⟩
        | dk =>
          refine iteF ?_
          obtain ⟨t2, ht2, _, _, kl2, _⟩ := rkD.i.ty (K := K)
          refine ⟨_, rfl, _, _, _, _, _, rfl, .ty "list", ht2, kit_ty kl2, _, rfl, ?_⟩
          cases sr with
          | sc u => exact iteF ⟨_, _, _, _, _, _, _, _, _, _, rfl, hD⟩
          | dk => exact iteF ⟨_, _, _, _, _, _, _, _, _, _, rfl, hD⟩
          | tup rs => exact nomatch rk.t
          | lst rs2 =>
            obtain ⟨pr, rfl, er⟩ := rkD.i
            obtain ⟨z1, cs, rfl, ezc, ca⟩ := c1 rs2 rfl
            refine iteT ⟨_, rfl, pr, rs2, ss, rfl, er, rkD.a, rk.l, fun HE z2 cs2 SE _ ez2 ca2 => ?_⟩
            refine ⟨_, rfl, _, _, _, _, rfl, rfl, SqT.of (SE _ _ etD), at_of (j := 1) (v := .ref z1) rfl rfl, z2, z1, cs2, cs, rfl, rfl, SqL.of ez2, SqL.of (SE _ _ (SD _ _ ezc)), copies_same rk.f (rkD.a.keep SE) ca2 ((ca.keep SD).keep SE), _, rfl, iteF ⟨_, _, _, _, _, _, _, _, _, _, rfl, hD.keep SE⟩⟩
        | tup gs => exact nomatch gk.t
        | lst gs2 =>
          obtain ⟨pg, rfl, eg⟩ := gkD.i
          obtain ⟨z0, rfl, ezg⟩ := c0 gs2 rfl
          refine iteT ⟨_, rfl, _, rfl, _, _, _, _, rfl, rfl, SqT.of etD, at_of (j := 0) (v := .ref z0) rfl rfl, pg, z0, gs2, gs2, rfl, rfl, SqL.of eg, SqL.of (SD _ _ ezg), paired_of rfl (fun j x y e1 e2 => by rw [e1] at e2; obtain rfl := Option.some.inj e2; exact (gk.f x (List.mem_of_getElem? e1)).same), _, rfl, iteF ?_⟩
          obtain ⟨t2, ht2, _, _, kl2, _⟩ := rkD.i.ty (K := K)
          refine ⟨_, rfl, _, _, _, _, _, rfl, .ty "list", ht2, kit_ty kl2, _, rfl, ?_⟩
          cases sr with
          | sc u => exact iteF ⟨_, _, _, _, _, _, _, _, _, _, rfl, hD⟩
          | dk => exact iteF ⟨_, _, _, _, _, _, _, _, _, _, rfl, hD⟩
          | tup rs => exact nomatch rk.t
          | lst rs2 =>
            obtain ⟨pr, rfl, er⟩ := rkD.i
            obtain ⟨z1, cs, rfl, ezc, ca⟩ := c1 rs2 rfl
            refine iteT ⟨_, rfl, pr, rs2, ss, rfl, er, rkD.a, rk.l, fun HE z2 cs2 SE _ ez2 ca2 => ?_⟩
            refine ⟨_, rfl, _, _, _, _, rfl, rfl, SqT.of (SE _ _ etD), at_of (j := 1) (v := .ref z1) rfl rfl, z2, z1, cs2, cs, rfl, rfl, SqL.of ez2, SqL.of (SE _ _ (SD _ _ ezc)), copies_same rk.f (rkD.a.keep SE) ca2 ((ca.keep SD).keep SE), _, rfl, iteF ⟨_, _, _, _, _, _, _, _, _, _, rfl, hD.keep SE⟩⟩
      -- ENDMARK3
    · rintro σ H' ⟨v2, v3, v4, v5, v6, v7, v8, v9, v10, v11, rfl, hh⟩
      exact k H'
end
end J

set_option Elab.async false
set_option linter.all false
set_option maxRecDepth 100000
set_option maxHeartbeats 8000000
namespace J
open PySem L2
theorem kit_me {K : PySem.W.Frag} {S : Addr} : PySem.W.kitOne K (.ref S) (.ref S) = some true := by
  unfold PySem.W.kitOne
  rw [if_pos (by simp)]
theorem kit_no {K : PySem.W.Frag} {S : Addr} {T : String} (h2 : PySem.W.isClsIn K S = true) (h3 : PySem.W.typeIn K (.ref S) = some (.type "type")) (h4 : PySem.W.subIn K (.type T) (.ref S) = some false) : PySem.W.kitOne K (.type T) (.ref S) = some false := by
  have e2 : ((PySem.W.clsIn K S).isSome && PySem.W.typeIn K (.ref S) == some (.type "type")) = true := by
    have q : (PySem.W.clsIn K S).isSome = true := h2
    rw [q, h3]
    rfl
  unfold PySem.W.kitOne
  rw [if_neg (by simp)]
  show (if ((PySem.W.clsIn K S).isSome && PySem.W.typeIn K (.ref S) == some (.type "type")) = true then PySem.W.subIn K (.type T) (.ref S) else none) = some false
  rw [if_pos e2]
  exact h4
theorem fund_mk {K : PySem.W.Frag} {x qual : Str} {st : Stmt} {f Td e1 e2 : Addr} {oc kV doc pm cd ct cT : Value} {od an dT : Option Addr} {sl slT : Array (Option Value)} {nT : Nat} (l : K.lookup f = some ⟨oc, od, .func (PySem.W.fnOf x qual (defArgs st) (defBody st) (defScope st) (.ref Td) kV doc pm an cd ct), sl⟩)
    (lT : K.lookup Td = some ⟨cT, dT, .seq #[.ref e1, .ref e2] nT, slT⟩) (c : PySem.W.codeIn K cd qual = true) (k : PySem.W.keepIn K (.ref f) = true) : FunD K x qual (defArgs st) (defBody st) (defScope st) [V.ref e1, V.ref e2] [] f (PySem.W.fnOf x qual (defArgs st) (defBody st) (defScope st) (.ref Td) kV doc pm an cd ct) :=
  ⟨⟨oc, od, .ref Td, kV, doc, pm, an, cd, ct, sl, rfl, l, c, .inr ⟨by simp, Td, _, [.ref e1, .ref e2], nT, rfl, lT, rfl, .cons rfl (.cons rfl .nil)⟩, .inl rfl⟩, k⟩
theorem fund_binds {K : PySem.W.Frag} {x qual : Str} {params : Arguments} {body : List Stmt} {scope : Scope} {a b : V} {f : Addr} {fd : FuncData} {ps : List Str} (F : FunD K x qual params body scope [a, b] [] f fd)
    (h : ∀ (T : Addr) (kV doc pm : Value) (an : Option Addr) (cdv ct : Value) (us its : List Value), us.length = ps.length → its.length = 2 →
      ∃ k, bindArgs (PySem.W.fnOf x qual params body scope (.ref T) kV doc pm an cdv ct) ⟨us, []⟩ = seqItems? (.ref T) >>= k ∧ k (some its.toArray) = pure (ps.zip (us ++ its.drop 2))) : Binds K fd ps [] := by
  obtain ⟨ds, v, bd⟩ := F.binds1 ps.length 2 (by simp) (by simp) h
  have v' : Vals [] ds := v
  cases v'
  exact bd
/-- an error of the class at S is what its own name catches -/
theorem exm_own {K : PySem.W.Frag} {S : Addr} (h1 : PySem.W.subIn K (.ref S) (.type "BaseException") = some true) (h2 : PySem.W.isClsIn K S = true) (h3 : PySem.W.typeIn K (.ref S) = some (.type "type")) (h4 : PySem.W.subIn K (.ref S) (.ref S) = some true) :
    PySem.W.exmOne K (.ref S) (.ref S) = some true := by
  have e1 : (PySem.W.subIn K (.ref S) (.type "BaseException") == some true) = true := by rw [h1]; rfl
  have e2 : ((PySem.W.clsIn K S).isSome && PySem.W.typeIn K (.ref S) == some (.type "type")) = true := by
    have q : (PySem.W.clsIn K S).isSome = true := h2
    rw [q, h3]
    rfl
  unfold PySem.W.exmOne
  rw [if_pos e1]
  show (if ((PySem.W.clsIn K S).isSome && PySem.W.typeIn K (.ref S) == some (.type "type")) = true then PySem.W.subIn K (.ref S) (.ref S) else none) = some true
  rw [if_pos e2]
  exact h4
theorem all_mk {l : PySem.W.OpenLaw} {w : World} {K : PySem.W.Frag} {h : Heap} {mg : Str → Option Value} {fa : Addr} (X : K.In h) (G : h.Ns mainGlobals mg) (hfa : mg "law" = some (.ref fa))
    {CT CB CE CC GE Td e1 e2 f_W f_L f_Q f_C f_T f_J f_R f_X f_H f_D f_K f_B f_Z f_U f_G f_P f_Y f_A f_V f_mI f_mH f_mJ f_mP f_mQ : Addr} {ocW kVW dcW pmW cdW ctW ocL kVL dcL pmL cdL ctL ocQ kVQ dcQ pmQ cdQ ctQ ocC kVC dcC pmC cdC ctC ocT kVT dcT pmT cdT ctT ocJ kVJ dcJ pmJ cdJ ctJ ocR kVR dcR pmR cdR ctR ocX kVX dcX pmX cdX ctX ocH kVH dcH pmH cdH ctH ocD kVD dcD pmD cdD ctD ocK kVK dcK pmK cdK ctK ocB kVB dcB pmB cdB ctB ocZ kVZ dcZ pmZ cdZ ctZ ocU kVU dcU pmU cdU ctU ocG kVG dcG pmG cdG ctG ocP kVP dcP pmP cdP ctP ocY kVY dcY pmY cdY ctY ocA kVA dcA pmA cdA ctA ocV kVV dcV pmV cdV ctV ocmI kVmI dcmI pmmI cdmI ctmI ocmH kVmH dcmH pmmH cdmH ctmH ocmJ kVmJ dcmJ pmmJ cdmJ ctmJ ocmP kVmP dcmP pmmP cdmP ctmP ocmQ kVmQ dcmQ pmmQ cdmQ ctmQ : Value} {odW anW odL anL odQ anQ odC anC odT anT odJ anJ odR anR odX anX odH anH odD anD odK anK odB anB odZ anZ odU anU odG anG odP anP odY anY odA anA odV anV odmI anmI odmH anmH odmJ anmJ odmP anmP odmQ anmQ : Option Addr} {slW slL slQ slC slT slJ slR slX slH slD slK slB slZ slU slG slP slY slA slV slmI slmH slmJ slmP slmQ : Array (Option Value)} {tM tL tG : Tok} {cTd : Value} {dTd : Option Addr} {nTd : Nat} {slTd : Array (Option Value)}
    {nmCB qCB : Str} {NCB : Addr} {bsCB : List Value} {snCB : List Str} {subCB : List Value} {abCB : Bool} {colCB : Option Bool} {ddCB : Option Addr} {m0CB m1CB m2CB m3CB m5CB : Option Value}
    {nmCE qCE : Str} {NCE : Addr} {bsCE : List Value} {snCE : List Str} {subCE : List Value} {abCE : Bool} {colCE : Option Bool} {ddCE : Option Addr} {m0CE m1CE m2CE m3CE m5CE : Option Value}
    (aCT : PySem.W.nsIn K mainGlobals "Ties" = some (some (.ref CT)))
    (aCB : PySem.W.nsIn K mainGlobals "BadTies" = some (some (.ref CB)))
    (aCE : PySem.W.nsIn K mainGlobals "BadCompany" = some (some (.ref CE)))
    (aCC : PySem.W.nsIn K mainGlobals "Company" = some (some (.ref CC)))
    (aW : PySem.W.nsIn K mainGlobals "is_whole" = some (some (.ref f_W)))
    (lW : K.lookup f_W = some ⟨ocW, odW, .func (PySem.W.fnOf "is_whole" "is_whole" (defArgs s_is_whole) (defBody s_is_whole) (defScope s_is_whole) .none kVW dcW pmW anW cdW ctW), slW⟩)
    (cW : PySem.W.codeIn K cdW "is_whole" = true)
    (kW : PySem.W.keepIn K (.ref f_W) = true)
    (aL : PySem.W.nsIn K mainGlobals "is_label" = some (some (.ref f_L)))
    (lL : K.lookup f_L = some ⟨ocL, odL, .func (PySem.W.fnOf "is_label" "is_label" (defArgs s_is_label) (defBody s_is_label) (defScope s_is_label) .none kVL dcL pmL anL cdL ctL), slL⟩)
    (cL : PySem.W.codeIn K cdL "is_label" = true)
    (kL : PySem.W.keepIn K (.ref f_L) = true)
    (aQ : PySem.W.nsIn K mainGlobals "is_sequence" = some (some (.ref f_Q)))
    (lQ : K.lookup f_Q = some ⟨ocQ, odQ, .func (PySem.W.fnOf "is_sequence" "is_sequence" (defArgs s_is_sequence) (defBody s_is_sequence) (defScope s_is_sequence) .none kVQ dcQ pmQ anQ cdQ ctQ), slQ⟩)
    (cQ : PySem.W.codeIn K cdQ "is_sequence" = true)
    (kQ : PySem.W.keepIn K (.ref f_Q) = true)
    (aC : PySem.W.nsIn K mainGlobals "ties_fault" = some (some (.ref f_C)))
    (lC : K.lookup f_C = some ⟨ocC, odC, .func (PySem.W.fnOf "ties_fault" "ties_fault" (defArgs s_ties_fault) (defBody s_ties_fault) (defScope s_ties_fault) .none kVC dcC pmC anC cdC ctC), slC⟩)
    (cC : PySem.W.codeIn K cdC "ties_fault" = true)
    (kC : PySem.W.keepIn K (.ref f_C) = true)
    (aT : PySem.W.nsIn K mainGlobals "_table_of" = some (some (.ref f_T)))
    (lT : K.lookup f_T = some ⟨ocT, odT, .func (PySem.W.fnOf "_table_of" "_table_of" (defArgs s_table_of) (defBody s_table_of) (defScope s_table_of) .none kVT dcT pmT anT cdT ctT), slT⟩)
    (cT : PySem.W.codeIn K cdT "_table_of" = true)
    (kT : PySem.W.keepIn K (.ref f_T) = true)
    (aJ : PySem.W.nsIn K mainGlobals "_check_company" = some (some (.ref f_J)))
    (lJ : K.lookup f_J = some ⟨ocJ, odJ, .func (PySem.W.fnOf "_check_company" "_check_company" (defArgs s_check_company) (defBody s_check_company) (defScope s_check_company) .none kVJ dcJ pmJ anJ cdJ ctJ), slJ⟩)
    (cJ : PySem.W.codeIn K cdJ "_check_company" = true)
    (kJ : PySem.W.keepIn K (.ref f_J) = true)
    (aR : PySem.W.nsIn K mainGlobals "_check_row" = some (some (.ref f_R)))
    (lR : K.lookup f_R = some ⟨ocR, odR, .func (PySem.W.fnOf "_check_row" "_check_row" (defArgs s_check_row) (defBody s_check_row) (defScope s_check_row) .none kVR dcR pmR anR cdR ctR), slR⟩)
    (cR : PySem.W.codeIn K cdR "_check_row" = true)
    (kR : PySem.W.keepIn K (.ref f_R) = true)
    (aX : PySem.W.nsIn K mainGlobals "_law_mix" = some (some (.ref f_X)))
    (lX : K.lookup f_X = some ⟨ocX, odX, .func (PySem.W.fnOf "_law_mix" "_law_mix" (defArgs s_Lmix) (defBody s_Lmix) (defScope s_Lmix) .none kVX dcX pmX anX cdX ctX), slX⟩)
    (cX : PySem.W.codeIn K cdX "_law_mix" = true)
    (kX : PySem.W.keepIn K (.ref f_X) = true)
    (aH : PySem.W.nsIn K mainGlobals "_law_hand" = some (some (.ref f_H)))
    (lH : K.lookup f_H = some ⟨ocH, odH, .func (PySem.W.fnOf "_law_hand" "_law_hand" (defArgs s_Lhand) (defBody s_Lhand) (defScope s_Lhand) .none kVH dcH pmH anH cdH ctH), slH⟩)
    (cH : PySem.W.codeIn K cdH "_law_hand" = true)
    (kH : PySem.W.keepIn K (.ref f_H) = true)
    (aD : PySem.W.nsIn K mainGlobals "_law_draw" = some (some (.ref f_D)))
    (lD : K.lookup f_D = some ⟨ocD, odD, .func (PySem.W.fnOf "_law_draw" "_law_draw" (defArgs s_Ldraw) (defBody s_Ldraw) (defScope s_Ldraw) .none kVD dcD pmD anD cdD ctD), slD⟩)
    (cD : PySem.W.codeIn K cdD "_law_draw" = true)
    (kD : PySem.W.keepIn K (.ref f_D) = true)
    (aK : PySem.W.nsIn K mainGlobals "_law_backs" = some (some (.ref f_K)))
    (lK : K.lookup f_K = some ⟨ocK, odK, .func (PySem.W.fnOf "_law_backs" "_law_backs" (defArgs s_Lbacks) (defBody s_Lbacks) (defScope s_Lbacks) .none kVK dcK pmK anK cdK ctK), slK⟩)
    (cK : PySem.W.codeIn K cdK "_law_backs" = true)
    (kK : PySem.W.keepIn K (.ref f_K) = true)
    (aB : PySem.W.nsIn K mainGlobals "_law_labels" = some (some (.ref f_B)))
    (lB : K.lookup f_B = some ⟨ocB, odB, .func (PySem.W.fnOf "_law_labels" "_law_labels" (defArgs s_Llabels) (defBody s_Llabels) (defScope s_Llabels) .none kVB dcB pmB anB cdB ctB), slB⟩)
    (cB : PySem.W.codeIn K cdB "_law_labels" = true)
    (kB : PySem.W.keepIn K (.ref f_B) = true)
    (aZ : PySem.W.nsIn K mainGlobals "_law_whole" = some (some (.ref f_Z)))
    (lZ : K.lookup f_Z = some ⟨ocZ, odZ, .func (PySem.W.fnOf "_law_whole" "_law_whole" (defArgs s_Lwhole) (defBody s_Lwhole) (defScope s_Lwhole) .none kVZ dcZ pmZ anZ cdZ ctZ), slZ⟩)
    (cZ : PySem.W.codeIn K cdZ "_law_whole" = true)
    (kZ : PySem.W.keepIn K (.ref f_Z) = true)
    (aU : PySem.W.nsIn K mainGlobals "_law_due" = some (some (.ref f_U)))
    (lU : K.lookup f_U = some ⟨ocU, odU, .func (PySem.W.fnOf "_law_due" "_law_due" (defArgs s_Ldue) (defBody s_Ldue) (defScope s_Ldue) .none kVU dcU pmU anU cdU ctU), slU⟩)
    (cU : PySem.W.codeIn K cdU "_law_due" = true)
    (kU : PySem.W.keepIn K (.ref f_U) = true)
    (aG : PySem.W.nsIn K mainGlobals "_law_spoil_guests" = some (some (.ref f_G)))
    (lG : K.lookup f_G = some ⟨ocG, odG, .func (PySem.W.fnOf "_law_spoil_guests" "_law_spoil_guests" (defArgs s_Lspoil_guests) (defBody s_Lspoil_guests) (defScope s_Lspoil_guests) .none kVG dcG pmG anG cdG ctG), slG⟩)
    (cG : PySem.W.codeIn K cdG "_law_spoil_guests" = true)
    (kG : PySem.W.keepIn K (.ref f_G) = true)
    (aP : PySem.W.nsIn K mainGlobals "_law_spoil_rows" = some (some (.ref f_P)))
    (lP : K.lookup f_P = some ⟨ocP, odP, .func (PySem.W.fnOf "_law_spoil_rows" "_law_spoil_rows" (defArgs s_Lspoil_rows) (defBody s_Lspoil_rows) (defScope s_Lspoil_rows) .none kVP dcP pmP anP cdP ctP), slP⟩)
    (cP : PySem.W.codeIn K cdP "_law_spoil_rows" = true)
    (kP : PySem.W.keepIn K (.ref f_P) = true)
    (aY : PySem.W.nsIn K mainGlobals "_law_copy" = some (some (.ref f_Y)))
    (lY : K.lookup f_Y = some ⟨ocY, odY, .func (PySem.W.fnOf "_law_copy" "_law_copy" (defArgs s_Lcopy) (defBody s_Lcopy) (defScope s_Lcopy) .none kVY dcY pmY anY cdY ctY), slY⟩)
    (cY : PySem.W.codeIn K cdY "_law_copy" = true)
    (kY : PySem.W.keepIn K (.ref f_Y) = true)
    (aA : PySem.W.nsIn K mainGlobals "_law_asked" = some (some (.ref f_A)))
    (lA : K.lookup f_A = some ⟨ocA, odA, .func (PySem.W.fnOf "_law_asked" "_law_asked" (defArgs s_Lasked) (defBody s_Lasked) (defScope s_Lasked) .none kVA dcA pmA anA cdA ctA), slA⟩)
    (cA : PySem.W.codeIn K cdA "_law_asked" = true)
    (kA : PySem.W.keepIn K (.ref f_A) = true)
    (aV : PySem.W.nsIn K mainGlobals "law" = some (some (.ref f_V)))
    (lV : K.lookup f_V = some ⟨ocV, odV, .func (PySem.W.fnOf "law" "law" (defArgs s_law) (defBody s_law) (defScope s_law) .none kVV dcV pmV anV cdV ctV), slV⟩)
    (cV : PySem.W.codeIn K cdV "law" = true)
    (kV : PySem.W.keepIn K (.ref f_V) = true)
    (amI : PySem.W.findIn K (.ref CT) "__init__" = some (some (.ref f_mI)))
    (imI : PySem.W.isFn K (.ref f_mI) = true)
    (lmI : K.lookup f_mI = some ⟨ocmI, odmI, .func (PySem.W.fnOf "__init__" "Ties.__init__" (defArgs s_Ties_init) (defBody s_Ties_init) (defScope s_Ties_init) .none kVmI dcmI pmmI anmI cdmI ctmI), slmI⟩)
    (cmI : PySem.W.codeIn K cdmI "Ties.__init__" = true)
    (kmI : PySem.W.keepIn K (.ref f_mI) = true)
    (amH : PySem.W.findIn K (.ref CT) "has" = some (some (.ref f_mH)))
    (imH : PySem.W.isFn K (.ref f_mH) = true)
    (lmH : K.lookup f_mH = some ⟨ocmH, odmH, .func (PySem.W.fnOf "has" "Ties.has" (defArgs s_Ties_has) (defBody s_Ties_has) (defScope s_Ties_has) .none kVmH dcmH pmmH anmH cdmH ctmH), slmH⟩)
    (cmH : PySem.W.codeIn K cdmH "Ties.has" = true)
    (kmH : PySem.W.keepIn K (.ref f_mH) = true)
    (amJ : PySem.W.findIn K (.ref CC) "__init__" = some (some (.ref f_mJ)))
    (imJ : PySem.W.isFn K (.ref f_mJ) = true)
    (lmJ : K.lookup f_mJ = some ⟨ocmJ, odmJ, .func (PySem.W.fnOf "__init__" "Company.__init__" (defArgs s_Company_init) (defBody s_Company_init) (defScope s_Company_init) (.ref Td) kVmJ dcmJ pmmJ anmJ cdmJ ctmJ), slmJ⟩)
    (lTd : K.lookup Td = some ⟨cTd, dTd, .seq #[.ref e1, .ref e2] nTd, slTd⟩)
    (cmJ : PySem.W.codeIn K cdmJ "Company.__init__" = true)
    (kmJ : PySem.W.keepIn K (.ref f_mJ) = true)
    (amP : PySem.W.findIn K (.ref CB) "__init__" = some (some (.ref f_mP)))
    (imP : PySem.W.typeIn K (.ref f_mP) = some (.type "function"))
    (lmP : K.lookup f_mP = some ⟨ocmP, odmP, .func (PySem.W.fnOf "__init__" "BadTies.__init__" (defArgs s_BadTies_init) (defBody s_BadTies_init) (defScope s_BadTies_init) .none kVmP dcmP pmmP anmP cdmP ctmP), slmP⟩)
    (cmP : PySem.W.codeIn K cdmP "BadTies.__init__" = true)
    (kmP : PySem.W.keepIn K (.ref f_mP) = true)
    (amQ : PySem.W.findIn K (.ref CE) "__init__" = some (some (.ref f_mQ)))
    (imQ : PySem.W.typeIn K (.ref f_mQ) = some (.type "function"))
    (lmQ : K.lookup f_mQ = some ⟨ocmQ, odmQ, .func (PySem.W.fnOf "__init__" "BadCompany.__init__" (defArgs s_BadCompany_init) (defBody s_BadCompany_init) (defScope s_BadCompany_init) .none kVmQ dcmQ pmmQ anmQ cdmQ ctmQ), slmQ⟩)
    (cmQ : PySem.W.codeIn K cdmQ "BadCompany.__init__" = true)
    (kmQ : PySem.W.keepIn K (.ref f_mQ) = true)
    (xCB : K.lookup CB = some (excClassObj nmCB qCB CB NCB bsCB [.ref GE, .type "ValueError", .type "Exception", .type "BaseException", .type "object"] true snCB subCB abCB colCB ddCB m0CB m1CB m2CB m3CB m5CB "ValueError.__new__"))
    (saCB : PySem.W.findIn K (.ref CB) "__setattr__" = some (some (.builtin "object.__setattr__")))
    (gaCB : PySem.W.findIn K (.ref CB) "__getattribute__" = some (some (.builtin "BaseException.__getattribute__")))
    (ggCB : PySem.W.findIn K (.ref CB) "__getattr__" = some none)
    (noCB : PySem.W.findIn K (.ref CB) "what" = some none)
    (kcCB : PySem.W.keepIn K (.ref CB) = true)
    (exCB : PySem.W.subIn K (.ref CB) (.type "BaseException") = some true)
    (tyCB : PySem.W.typeIn K (.ref CB) = some (.type "type"))
    (hdCB : PySem.W.hasDictIn K CB = true)
    (icCB : PySem.W.isClsIn K CB = true)
    (scCB : PySem.W.subIn K (.ref CB) (.ref CB) = some true)
    (xCE : K.lookup CE = some (excClassObj nmCE qCE CE NCE bsCE [.ref GE, .type "ValueError", .type "Exception", .type "BaseException", .type "object"] true snCE subCE abCE colCE ddCE m0CE m1CE m2CE m3CE m5CE "ValueError.__new__"))
    (saCE : PySem.W.findIn K (.ref CE) "__setattr__" = some (some (.builtin "object.__setattr__")))
    (gaCE : PySem.W.findIn K (.ref CE) "__getattribute__" = some (some (.builtin "BaseException.__getattribute__")))
    (ggCE : PySem.W.findIn K (.ref CE) "__getattr__" = some none)
    (noCE : PySem.W.findIn K (.ref CE) "index" = some none)
    (noE2 : PySem.W.findIn K (.ref CE) "what" = some none)
    (kcCE : PySem.W.keepIn K (.ref CE) = true)
    (exCE : PySem.W.subIn K (.ref CE) (.type "BaseException") = some true)
    (tyCE : PySem.W.typeIn K (.ref CE) = some (.type "type"))
    (hdCE : PySem.W.hasDictIn K CE = true)
    (icCE : PySem.W.isClsIn K CE = true)
    (scCE : PySem.W.subIn K (.ref CE) (.ref CE) = some true)
    (pg : PySem.W.plainGet K CT Str.empty = true)
    (hd : PySem.W.hasDictIn K CT = true)
    (po : PySem.W.plainOver K CT = true)
    (sa : PySem.W.findIn K (.ref CT) "__setattr__" = some (some (.builtin "object.__setattr__")))
    (mk : PySem.W.makesIn K CT = true)
    (kc : PySem.W.keepIn K (.ref CT) = true)
    (nB : PySem.W.findIn K (.ref CT) "backs" = some none)
    (nM : PySem.W.findIn K (.ref CT) "many" = some none)
    (pg2 : PySem.W.plainGet K CC Str.empty = true)
    (hd2 : PySem.W.hasDictIn K CC = true)
    (po2 : PySem.W.plainOver K CC = true)
    (sa2 : PySem.W.findIn K (.ref CC) "__setattr__" = some (some (.builtin "object.__setattr__")))
    (mk2 : PySem.W.makesIn K CC = true)
    (kc2 : PySem.W.keepIn K (.ref CC) = true)
    (nC1 : PySem.W.findIn K (.ref CC) "ties" = some none)
    (nC2 : PySem.W.findIn K (.ref CC) "guests" = some none)
    (nC3 : PySem.W.findIn K (.ref CC) "rows" = some none)
    (nC4 : PySem.W.findIn K (.ref CC) "table" = some none)
    (nC5 : PySem.W.findIn K (.ref CC) "_places" = some none)
    (gM : PySem.W.nsIn K mainGlobals "MOST_TIES" = some (some (.int 4 tM)))
    (gL : PySem.W.nsIn K mainGlobals "MOST_LABEL" = some (some (.int 1000000000 tL)))
    (gG : PySem.W.nsIn K mainGlobals "MOST_GUESTS" = some (some (.int 60 tG)))
    (z_len : PySem.W.nsIn K mainGlobals "len" = some none)
    (z_all : PySem.W.nsIn K mainGlobals "all" = some none)
    (z_isinstance : PySem.W.nsIn K mainGlobals "isinstance" = some none)
    (z_int : PySem.W.nsIn K mainGlobals "int" = some none)
    (z_bool : PySem.W.nsIn K mainGlobals "bool" = some none)
    (z_list : PySem.W.nsIn K mainGlobals "list" = some none)
    (z_tuple : PySem.W.nsIn K mainGlobals "tuple" = some none)
    (z_range : PySem.W.nsIn K mainGlobals "range" = some none)
    (z_abs : PySem.W.nsIn K mainGlobals "abs" = some none)
    (z_enumerate : PySem.W.nsIn K mainGlobals "enumerate" = some none)
    (z_max : PySem.W.nsIn K mainGlobals "max" = some none)
    : ∃ fd : FuncData, (∀ (s : Shared) (v : Value), BindsTo s fd ⟨[v], []⟩ [("_law_script", v)]) ∧ ∀ base : Heap, K.In base → base.Ns mainGlobals mg → FnOk l.prog w K mg base CX0 8 fa fd ["_law_script"] (spLaw K) := by
  have e := hfa.symm.trans (PySem.W.mg_of X G aV)
  cases e
  have FW := fun_mk (st := s_is_whole) lW cW kW
  have bW := FW.binds (ps := ["thing", "low", "high"]) fun _ _ _ _ _ _ us hl => match us, hl with | [_, _, _], _ => rfl
  have FL := fun_mk (st := s_is_label) lL cL kL
  have bL := FL.binds (ps := ["thing"]) fun _ _ _ _ _ _ us hl => match us, hl with | [_], _ => rfl
  have FQ := fun_mk (st := s_is_sequence) lQ cQ kQ
  have bQ := FQ.binds (ps := ["thing"]) fun _ _ _ _ _ _ us hl => match us, hl with | [_], _ => rfl
  have FC := fun_mk (st := s_ties_fault) lC cC kC
  have bC := FC.binds (ps := ["backs"]) fun _ _ _ _ _ _ us hl => match us, hl with | [_], _ => rfl
  have FT := fun_mk (st := s_table_of) lT cT kT
  have bT := FT.binds (ps := ["ties", "rows"]) fun _ _ _ _ _ _ us hl => match us, hl with | [_, _], _ => rfl
  have FJ := fun_mk (st := s_check_company) lJ cJ kJ
  have bJ := FJ.binds (ps := ["ties", "guests", "rows"]) fun _ _ _ _ _ _ us hl => match us, hl with | [_, _, _], _ => rfl
  have FR := fun_mk (st := s_check_row) lR cR kR
  have bR := FR.binds (ps := ["ties", "index", "row", "length"]) fun _ _ _ _ _ _ us hl => match us, hl with | [_, _, _, _], _ => rfl
  have FX := fun_mk (st := s_Lmix) lX cX kX
  have bX := FX.binds (ps := ["_law_number", "_law_turn"]) fun _ _ _ _ _ _ us hl => match us, hl with | [_, _], _ => rfl
  have FH := fun_mk (st := s_Lhand) lH cH kH
  have bH := FH.binds (ps := ["_law_script"]) fun _ _ _ _ _ _ us hl => match us, hl with | [_], _ => rfl
  have FD := fun_mk (st := s_Ldraw) lD cD kD
  have bD := FD.binds (ps := ["_law_hand_here", "_law_many"]) fun _ _ _ _ _ _ us hl => match us, hl with | [_, _], _ => rfl
  have FK := fun_mk (st := s_Lbacks) lK cK kK
  have bK := FK.binds (ps := ["_law_hand_here", "_law_many"]) fun _ _ _ _ _ _ us hl => match us, hl with | [_, _], _ => rfl
  have FB := fun_mk (st := s_Llabels) lB cB kB
  have bB := FB.binds (ps := ["_law_hand_here", "_law_many"]) fun _ _ _ _ _ _ us hl => match us, hl with | [_, _], _ => rfl
  have FZ := fun_mk (st := s_Lwhole) lZ cZ kZ
  have bZ := FZ.binds (ps := ["_law_thing", "_law_low", "_law_high"]) fun _ _ _ _ _ _ us hl => match us, hl with | [_, _, _], _ => rfl
  have FU := fun_mk (st := s_Ldue) lU cU kU
  have bU := FU.binds (ps := ["_law_many", "_law_guests", "_law_rows"]) fun _ _ _ _ _ _ us hl => match us, hl with | [_, _, _], _ => rfl
  have FG := fun_mk (st := s_Lspoil_guests) lG cG kG
  have bG := FG.binds (ps := ["_law_hand_here", "_law_guests"]) fun _ _ _ _ _ _ us hl => match us, hl with | [_, _], _ => rfl
  have FP := fun_mk (st := s_Lspoil_rows) lP cP kP
  have bP := FP.binds (ps := ["_law_hand_here", "_law_many", "_law_rows"]) fun _ _ _ _ _ _ us hl => match us, hl with | [_, _, _], _ => rfl
  have FY := fun_mk (st := s_Lcopy) lY cY kY
  have bY := FY.binds (ps := ["_law_rows"]) fun _ _ _ _ _ _ us hl => match us, hl with | [_], _ => rfl
  have FA := fun_mk (st := s_Lasked) lA cA kA
  have bA := FA.binds (ps := ["_law_backs_here", "_law_guests", "_law_rows"]) fun _ _ _ _ _ _ us hl => match us, hl with | [_, _, _], _ => rfl
  have FV := fun_mk (st := s_law) lV cV kV
  have bV := FV.binds (ps := ["_law_script"]) fun _ _ _ _ _ _ us hl => match us, hl with | [_], _ => rfl
  have FmI := fun_mk (st := s_Ties_init) lmI cmI kmI
  have bmI := FmI.binds (ps := ["self", "backs"]) fun _ _ _ _ _ _ us hl => match us, hl with | [_, _], _ => rfl
  have FmH := fun_mk (st := s_Ties_has) lmH cmH kmH
  have bmH := FmH.binds (ps := ["self", "thing"]) fun _ _ _ _ _ _ us hl => match us, hl with | [_, _], _ => rfl
  have FmJ := fund_mk (st := s_Company_init) lmJ lTd cmJ kmJ
  have bmJ := fund_binds (ps := ["self", "ties", "guests", "rows"]) FmJ
    fun _ _ _ _ _ _ _ us its hl hi => match us, its, hl, hi with | [_, _, _, _], [_, _], _, _ => ⟨_, rfl, rfl⟩
  have FmP := fun_mk (st := s_BadTies_init) lmP cmP kmP
  have bmP := FmP.binds (ps := ["self", "what"]) fun _ _ _ _ _ _ us hl => match us, hl with | [_, _], _ => rfl
  have FmQ := fun_mk (st := s_BadCompany_init) lmQ cmQ kmQ
  have bmQ := FmQ.binds (ps := ["self", "index", "what"]) fun _ _ _ _ _ _ us hl => match us, hl with | [_, _, _], _ => rfl
  have n_len := PySem.W.mg_none_of X G z_len
  have n_all := PySem.W.mg_none_of X G z_all
  have n_isinstance := PySem.W.mg_none_of X G z_isinstance
  have n_int := PySem.W.mg_none_of X G z_int
  have n_bool := PySem.W.mg_none_of X G z_bool
  have n_list := PySem.W.mg_none_of X G z_list
  have n_tuple := PySem.W.mg_none_of X G z_tuple
  have n_range := PySem.W.mg_none_of X G z_range
  have n_abs := PySem.W.mg_none_of X G z_abs
  have n_enumerate := PySem.W.mg_none_of X G z_enumerate
  have n_max := PySem.W.mg_none_of X G z_max
  have mM := PySem.W.mg_of X G gM
  have mL := PySem.W.mg_of X G gL
  have mG := PySem.W.mg_of X G gG
  have TC : TiC K CT := ⟨⟨pg, hd, po, sa⟩, nB, nM⟩
  have COC : CoC K CC := ⟨⟨pg2, hd2, po2, sa2⟩, nC1, nC2, nC3, nC4, nC5⟩
  have oCB : OexC K CB := ⟨⟨_, _, _, _, _, _, _, _, _, _, _, _, _, _, _, xCB, by first | rfl | decide +kernel⟩, saCB, exCB, tyCB, kcCB⟩
  have xfCB : XfC K CB := ⟨gaCB, ggCB, exCB, hdCB⟩
  have oCE : OexC K CE := ⟨⟨_, _, _, _, _, _, _, _, _, _, _, _, _, _, _, xCE, by first | rfl | decide +kernel⟩, saCE, exCE, tyCE, kcCE⟩
  have xfCE : XfC K CE := ⟨gaCE, ggCE, exCE, hdCE⟩
  refine ⟨PySem.W.fnOf "law" "law" (defArgs s_law) (defBody s_law) (defScope s_law) .none kVV dcV pmV anV cdV ctV, fun s v => .of_eq rfl, fun base KB GB => ?_⟩
  have exB : Ex l.prog w K mg base "BadTies" "what" CB f_mP _ ["self", "what"] := ⟨oCB, amP, imP, ok_BadTies_init FmP oCB noCB, bmP, PySem.W.mg_of X G aCB, xfCB, noCB, exm_own exCB icCB tyCB scCB⟩
  have exE : Ex2 l.prog w K mg base "BadCompany" "index" "what" CE f_mQ _ ["self", "index", "what"] := ⟨oCE, amQ, imQ, ok_BadCompany_init FmQ oCE noCE noE2, bmQ, PySem.W.mg_of X G aCE, xfCE, noCE, noE2, exm_own exCE icCE tyCE scCE⟩
  have GW : Cal l.prog w K mg base CX0 1 "is_whole" f_W _ ["thing", "low", "high"] spWhole := ⟨ok_is_whole FW n_isinstance n_int n_bool, PySem.W.mg_of X G aW, kW, bW⟩
  have GL : Cal l.prog w K mg base CX0 2 "is_label" f_L _ ["thing"] spLabel := ⟨ok_is_label FL GW ⟨_, mL⟩, PySem.W.mg_of X G aL, kL, bL⟩
  have GQ : Cal l.prog w K mg base CX0 1 "is_sequence" f_Q _ ["thing"] spSeq := ⟨ok_is_sequence FQ n_isinstance n_list n_tuple, PySem.W.mg_of X G aQ, kQ, bQ⟩
  have GC : Cal l.prog w K mg base CX0 2 "ties_fault" f_C _ ["backs"] spFault := ⟨ok_ties_fault FC n_len n_range n_all ⟨_, mM⟩ GQ GW, PySem.W.mg_of X G aC, kC, bC⟩
  have GX : Cal l.prog w K mg base CX0 1 "_law_mix" f_X _ ["_law_number", "_law_turn"] spMix := ⟨ok_Lmix FX n_int, PySem.W.mg_of X G aX, kX, bX⟩
  have GH : Cal l.prog w K mg base CX0 1 "_law_hand" f_H _ ["_law_script"] (spHand K) := ⟨ok_Lhand FH n_int n_abs n_enumerate, PySem.W.mg_of X G aH, kH, bH⟩
  have GD : Cal l.prog w K mg base CX0 2 "_law_draw" f_D _ ["_law_hand_here", "_law_many"] spDraw := ⟨ok_Ldraw FD n_int n_len GX, PySem.W.mg_of X G aD, kD, bD⟩
  have GK : Cal l.prog w K mg base CX0 3 "_law_backs" f_K _ ["_law_hand_here", "_law_many"] spBacks := ⟨ok_Lbacks FK n_list n_len n_range GD, PySem.W.mg_of X G aK, kK, bK⟩
  have MI : Mk K CT f_mI := ⟨mk, amI, imI, kc⟩
  have FI := ok_Ties_init (P := l.prog) (w := w) (base := base) FmI TC n_len n_tuple GC exB
  have GH2 : Mt l.prog w K mg base CX0 2 CT "has" f_mH _ ["self", "thing"] (spHas CT) := ⟨⟨amH, imH, kmH⟩, ok_Ties_has FmH TC GW, bmH⟩
  have GR : Cal l.prog w K mg base (L2.CX l.prog w) 3 "_check_row" f_R _ ["ties", "index", "row", "length"] (spRow CT CE) := ⟨ok_check_row FR TC n_len GQ GH2 exE, PySem.W.mg_of X G aR, kR, bR⟩
  have GJ : Cal l.prog w K mg base (L2.CX l.prog w) 4 "_check_company" f_J _ ["ties", "guests", "rows"] (spCC CT CE) := ⟨ok_check_company FJ n_len n_enumerate ⟨_, mG⟩ GQ GL GR exE, PySem.W.mg_of X G aJ, kJ, bJ⟩
  have GT : Cal l.prog w K mg base CX0 1 "_table_of" f_T _ ["ties", "rows"] (spTable CT) := ⟨ok_table_of FT TC n_len n_tuple n_enumerate, PySem.W.mg_of X G aT, kT, bT⟩
  have MJ : Mk K CC f_mJ := ⟨mk2, amJ, imJ, kc2⟩
  have FJ2 := ok_Company_init (P := l.prog) (w := w) (base := base) FmJ COC n_tuple n_enumerate GJ GT
  have GB : Cal l.prog w K mg base CX0 3 "_law_labels" f_B _ ["_law_hand_here", "_law_many"] spLabels := ⟨ok_Llabels FB n_range n_max GD, PySem.W.mg_of X G aB, kB, bB⟩
  have GZ : Cal l.prog w K mg base CX0 1 "_law_whole" f_Z _ ["_law_thing", "_law_low", "_law_high"] spWhole := ⟨ok_Lwhole FZ n_isinstance n_int n_bool, PySem.W.mg_of X G aZ, kZ, bZ⟩
  have GU : Cal l.prog w K mg base CX0 2 "_law_due" f_U _ ["_law_many", "_law_guests", "_law_rows"] spDueC := ⟨ok_Ldue FU n_len n_tuple n_list n_isinstance n_range GZ, PySem.W.mg_of X G aU, kU, bU⟩
  have GG : Cal l.prog w K mg base CX0 3 "_law_spoil_guests" f_G _ ["_law_hand_here", "_law_guests"] spSpG := ⟨ok_Lspoil_guests FG n_len GD, PySem.W.mg_of X G aG, kG, bG⟩
  have GP : Cal l.prog w K mg base CX0 3 "_law_spoil_rows" f_P _ ["_law_hand_here", "_law_many", "_law_rows"] spSpR := ⟨ok_Lspoil_rows FP n_len n_isinstance n_list GD, PySem.W.mg_of X G aP, kP, bP⟩
  have GY : Cal l.prog w K mg base CX0 1 "_law_copy" f_Y _ ["_law_rows"] spCopy := ⟨ok_Lcopy FY n_isinstance n_list n_tuple, PySem.W.mg_of X G aY, kY, bY⟩
  have GA : Cal l.prog w K mg base CX0 7 "_law_asked" f_A _ ["_law_backs_here", "_law_guests", "_law_rows"] spAsked := ⟨ok_Lasked FA n_list (PySem.W.mg_of X G aCT) (PySem.W.mg_of X G aCC) COC MI FI bmI MJ FJ2 bmJ exE GY, PySem.W.mg_of X G aA, kA, bA⟩
  exact ok_law FV n_len n_isinstance n_list n_bool n_range GH GD GK GB GG GP GU GY GA
theorem walk {l : PySem.W.OpenLaw} {q : Program} {loose : List Str} {XP : (Str → Option Value) → Heap → Prop} {YP : World → Heap → Prop} {d : DefRec} {K : Params → PySem.W.Frag} (hn : l.most = some 63) (hdf : d.params.defaults = [])
    (hY : ∀ (w : World) (h : Heap), YP w h → (K w.params).In h)
    (F : ∀ (w : World) (mg : Str → Option Value) (fa : Addr) (h : Heap), (K w.params).In h → h.Ns mainGlobals mg → mg d.name = some (.ref fa) →
      ∃ fd : FuncData, (∀ (s : Shared) (u : Value), BindsTo s fd ⟨[u], []⟩ [("_law_script", u)]) ∧ ∀ base : Heap, (K w.params).In base → base.Ns mainGlobals mg → FnOk l.prog w (K w.params) mg base CX0 8 fa fd ["_law_script"] (spLaw (K w.params))) :
    PySem.W.WalkO q loose XP YP l.row.toRowW d [] (fun f vs => PySem.call f vs) :=
  L2.walk_of (n := 63) (k := 8) (x := "_law_script") (CX := fun _ => CX0) (sp := fun w => spLaw (K w.params)) hn (by decide) hdf ⟨rfl, by decide, by decide⟩ hY F (fun _ _ a ns hl _ hS => ⟨a, ns, rfl, hS, hl, fun _ => rfl⟩) fun _ _ _ _ _ z => z
end J

set_option Elab.async false
open PySem PySem.W PyProof.Rows in
set_option maxRecDepth 100000 in
set_option maxHeartbeats 0 in
theorem PySem.Challenge.cw_joinedguests_k03_companies_refused_at_th_holds : PySem.Challenge.rw_joinedguests_k03_companies_refused_at_th.Holds := by
  w_on; o_law; k_head; (case hw => w_witness2)
  k_fill
  refine J.walk (l := PySem.Challenge.rw_joinedguests_k03_companies_refused_at_th) rfl rfl (fun w h Y => PySem.W.kIn_of Y) ?F
  case F =>
    intro w mg fa h KX G hmg
    refine' J.all_mk KX G hmg ?aCT ?aCB ?aCE ?aCC ?aW ?lW ?cW ?kW ?aL ?lL ?cL ?kL ?aQ ?lQ ?cQ ?kQ ?aC ?lC ?cC ?kC ?aT ?lT ?cT ?kT ?aJ ?lJ ?cJ ?kJ ?aR ?lR ?cR ?kR ?aX ?lX ?cX ?kX ?aH ?lH ?cH ?kH ?aD ?lD ?cD ?kD ?aK ?lK ?cK ?kK ?aB ?lB ?cB ?kB ?aZ ?lZ ?cZ ?kZ ?aU ?lU ?cU ?kU ?aG ?lG ?cG ?kG ?aP ?lP ?cP ?kP ?aY ?lY ?cY ?kY ?aA ?lA ?cA ?kA ?aV ?lV ?cV ?kV ?amI ?imI ?lmI ?cmI ?kmI ?amH ?imH ?lmH ?cmH ?kmH ?amJ ?imJ ?lmJ ?lTd ?cmJ ?kmJ ?amP ?imP ?lmP ?cmP ?kmP ?amQ ?imQ ?lmQ ?cmQ ?kmQ ?xCB ?saCB ?gaCB ?ggCB ?noCB ?kcCB ?exCB ?tyCB ?hdCB ?icCB ?scCB ?xCE ?saCE ?gaCE ?ggCE ?noCE ?noE2 ?kcCE ?exCE ?tyCE ?hdCE ?icCE ?scCE ?pg ?hd ?po ?sa ?mk ?kc ?nB ?nM ?pg2 ?hd2 ?po2 ?sa2 ?mk2 ?kc2 ?nC1 ?nC2 ?nC3 ?nC4 ?nC5 ?gM ?gL ?gG ?z_len ?z_all ?z_isinstance ?z_int ?z_bool ?z_list ?z_tuple ?z_range ?z_abs ?z_enumerate ?z_max
    (case aCT => k_is)
    (case aCB => k_is)
    (case aCE => k_is)
    (case aCC => k_is)
    (case aW => k_is)
    (case lW => k_is)
    (case cW => k_is)
    (case kW => k_is)
    (case aL => k_is)
    (case lL => k_is)
    (case cL => k_is)
    (case kL => k_is)
    (case aQ => k_is)
    (case lQ => k_is)
    (case cQ => k_is)
    (case kQ => k_is)
    (case aC => k_is)
    (case lC => k_is)
    (case cC => k_is)
    (case kC => k_is)
    (case aT => k_is)
    (case lT => k_is)
    (case cT => k_is)
    (case kT => k_is)
    (case aJ => k_is)
    (case lJ => k_is)
    (case cJ => k_is)
    (case kJ => k_is)
    (case aR => k_is)
    (case lR => k_is)
    (case cR => k_is)
    (case kR => k_is)
    (case aX => k_is)
    (case lX => k_is)
    (case cX => k_is)
    (case kX => k_is)
    (case aH => k_is)
    (case lH => k_is)
    (case cH => k_is)
    (case kH => k_is)
    (case aD => k_is)
    (case lD => k_is)
    (case cD => k_is)
    (case kD => k_is)
    (case aK => k_is)
    (case lK => k_is)
    (case cK => k_is)
    (case kK => k_is)
    (case aB => k_is)
    (case lB => k_is)
    (case cB => k_is)
    (case kB => k_is)
    (case aZ => k_is)
    (case lZ => k_is)
    (case cZ => k_is)
    (case kZ => k_is)
    (case aU => k_is)
    (case lU => k_is)
    (case cU => k_is)
    (case kU => k_is)
    (case aG => k_is)
    (case lG => k_is)
    (case cG => k_is)
    (case kG => k_is)
    (case aP => k_is)
    (case lP => k_is)
    (case cP => k_is)
    (case kP => k_is)
    (case aY => k_is)
    (case lY => k_is)
    (case cY => k_is)
    (case kY => k_is)
    (case aA => k_is)
    (case lA => k_is)
    (case cA => k_is)
    (case kA => k_is)
    (case aV => k_is)
    (case lV => k_is)
    (case cV => k_is)
    (case kV => k_is)
    (case amI => k_is)
    (case imI => k_is)
    (case lmI => k_is)
    (case cmI => k_is)
    (case kmI => k_is)
    (case amH => k_is)
    (case imH => k_is)
    (case lmH => k_is)
    (case cmH => k_is)
    (case kmH => k_is)
    (case amJ => k_is)
    (case imJ => k_is)
    (case lmJ => k_is)
    (case lTd => k_is)
    (case cmJ => k_is)
    (case kmJ => k_is)
    (case amP => k_is)
    (case imP => k_is)
    (case lmP => k_is)
    (case cmP => k_is)
    (case kmP => k_is)
    (case amQ => k_is)
    (case imQ => k_is)
    (case lmQ => k_is)
    (case cmQ => k_is)
    (case kmQ => k_is)
    (case xCB => k_is)
    (case saCB => k_is)
    (case gaCB => k_is)
    (case ggCB => k_is)
    (case noCB => k_is)
    (case kcCB => k_is)
    (case exCB => k_is)
    (case tyCB => k_is)
    (case hdCB => k_is)
    (case icCB => k_is)
    (case scCB => first | rfl | k_is)
    (case xCE => k_is)
    (case saCE => k_is)
    (case gaCE => k_is)
    (case ggCE => k_is)
    (case noCE => k_is)
    (case noE2 => k_is)
    (case kcCE => k_is)
    (case exCE => k_is)
    (case tyCE => k_is)
    (case hdCE => k_is)
    (case icCE => k_is)
    (case scCE => first | rfl | k_is)
    (case pg => k_is)
    (case hd => k_is)
    (case po => k_is)
    (case sa => k_is)
    (case mk => k_is)
    (case kc => k_is)
    (case nB => k_is)
    (case nM => k_is)
    (case pg2 => k_is)
    (case hd2 => k_is)
    (case po2 => k_is)
    (case sa2 => k_is)
    (case mk2 => k_is)
    (case kc2 => k_is)
    (case nC1 => k_is)
    (case nC2 => k_is)
    (case nC3 => k_is)
    (case nC4 => k_is)
    (case nC5 => k_is)
    (case gM => k_is)
    (case gL => k_is)
    (case gG => k_is)
    (case z_len => k_is)
    (case z_all => k_is)
    (case z_isinstance => k_is)
    (case z_int => k_is)
    (case z_bool => k_is)
    (case z_list => k_is)
    (case z_tuple => k_is)
    (case z_range => k_is)
    (case z_abs => k_is)
    (case z_enumerate => k_is)
    (case z_max => k_is)

