import PyProof.Rows.All
import Wide.All
import OpenK.AllK
import Wide.FinOn
import HandS.ForMost
import HandS.ForExc
import HandS.Wide
import HandS.IsInst
import HandS.ExcInit
import HandS.ExcField
import HandS.Conv
import HandS.TupLe
import HandS.TryOnly
import HandS.ExcIs
import HandS.Codes
import KE.GoesMore
import HandS.Defaults
import HandS.DictComp
import OpenK.KMeth
import OpenK.KOps
import HandS.Dict
import HandS.TupAny
import HandS.TryMany
import HandS.IterVal
import PyProof.WalksMore
import HandS.DeepEq
import HandS.Iter
import PyProof.CallFns
import PySem.Challenge.RW_joinedguests_k02_whole_companies_told_gu
set_option Elab.async false
set_option linter.all false
set_option maxRecDepth 100000
set_option maxHeartbeats 2000000
namespace J
open PySem PySem.Spec PyProof.Rows L2
def top (i : Nat) : Stmt := PySem.Challenge.pw_joinedguests_k02_whole_companies_told_gu.main.body.getD i (.Pass ⟨0, 0, 0, 0⟩)
/-! ### a def that may be called -/
structure Cal (P : Program) (w : World) (K : PySem.W.Frag) (mg : Str → Option Value) (base : Heap) (CX : CXT) (k : Nat) (x : Str) (f : Addr) (fd : FuncData) (ps : List Str) (sp : Sp) : Prop where
  F : FnOk P w K mg base CX k f fd ps sp
  m : mg x = some (.ref f)
  kp : PySem.W.keepIn K (.ref f) = true
  b : Binds K fd ps []
section
variable {X : Cx} {CX : CXT} {k j : Nat} {x : Str} {f : Addr} {fd : FuncData} {ps : List Str} {sp : Sp} {E : XK} {p pos : Pos} {e : Expr} {es : List Expr} {t : TA}
theorem pcal (c : Cal X.prog X.w X.K X.mg X.base CX k x f fd ps sp) (hr : Room j X.A) (hx : Passes CX X E) (ha : PA X (e :: es) t) (hk : k ≤ j := by decide) (hg : Gl X x := by rfl)
    (hdb : (x == ("__debug__" : Str)) = false := by decide) (he : starEach (e :: es) X.env = (false, eval e X.env) :: starEach es X.env := by rfl) (hpl : (backTo pos (starEach es X.env)).any (·.1) = false := by rfl) :
    PE X (.Call (.Name x p) (e :: es) [] pos) (tCall sp [] E t) := pe_call c.F (hr.mono hk) hg c.m c.kp c.b .nil hx ha hdb he hpl
end
/-! ### loops over enumerate -/
theorem for_enum {K : PySem.W.Frag} {a : Addr} {xs : List V} {g : TG} {tb : TS} {D : Ends} {σ : L2.St} {H : Hp} (Pv : Nat → L2.St → Hp → Prop) (h0 : Pv 0 σ H) (hl : ∀ i σ H, i ≤ xs.length → Pv i σ H → SqL K H a xs)
    (hs : ∀ i x σ H T, xs[i]? = some x → Pv i σ H → H T = none → g (.ref T) σ (upd H T (.tup [.int (i : Nat), x])) fun σ2 H2 => tb { D with nx := Pv (i + 1), ct := Pv (i + 1), bk := D.nx } σ2 H2) (hd : ∀ σ H, Pv xs.length σ H → D.nx σ H) :
    ∃ W : Nat → Nat → L2.St → Hp → Prop, (∃ m, W 0 m σ H) ∧ ∀ i m σ H, W i m σ H →
      ((Ite K a).stop i H ∧ D.nx σ H) ∨ ((Ite K a).go i H ∧ ∃ N : L2.St → Hp → Prop, (∀ σ' H', N σ' H' → ∃ m', m' < m ∧ W (i + 1) m' σ' H') ∧ ∀ x H', (Ite K a).yld i H x H' → g x σ H' fun σ2 H2 => tb { D with nx := N, ct := N, bk := D.nx } σ2 H2) := by
  refine ⟨fun i m s h => m + i = xs.length ∧ Pv i s h, ⟨xs.length, rfl, h0⟩, ?_⟩
  rintro i m σ H ⟨em, p⟩
  have hi : i ≤ xs.length := by omega
  have q := hl i σ H hi p
  rcases Nat.lt_or_ge i xs.length with hlt | hge
  · refine .inr ⟨⟨xs, xs[i], q, by simp [hlt]⟩, Pv (i + 1), fun σ' H' p' => ⟨m - 1, by omega, by omega, p'⟩, ?_⟩
    rintro x H' ⟨T, y, rfl, hT, rfl, hy⟩
    exact hs i y σ H T (hy xs q) p hT
  · have e : i = xs.length := by omega
    subst e
    exact .inl ⟨⟨xs, q, Nat.le_refl _⟩, hd σ H p⟩

/-! ### mix -/
abbrev s_Lmix : Stmt := top 24
theorem sc_Lmix : FnScope ["_law_number", "_law_turn", "_law_once", "_law_twice"] ["_law_number", "_law_turn"] (defScope s_Lmix) := ⟨rfl, rfl, rfl, by decide +kernel, rfl, by decide +kernel, by decide +kernel⟩
def spMix : Sp := fun vs H Q _ => ∃ n t : Int, vs = [.int n, .int t] ∧ ∀ r : Int, 0 ≤ r → Q (.int r) H
section
variable {P : Program} {w : World} {K : PySem.W.Frag} {mg : Str → Option Value} {base : Heap}
theorem ok_Lmix {f : Addr} {fd : FuncData} (F : Fun K "_law_mix" "_law_mix" s_Lmix f fd) (ni : mg "int" = none) : FnOk P w K mg base CX0 1 f fd ["_law_number", "_law_turn"] spMix := by
  refine F.ok sc_Lmix (fun vs H Q E h => ?_) (fun cdv A outer s H vs Q E hr h => ?_)
  · obtain ⟨n, t, rfl, _⟩ := h
    rfl
  · obtain ⟨n, t, rfl, k⟩ := h
    refine ⟨_, (pss_cons 
  (ps_set (i := 2) sc_Lmix.nd rfl (Or.inl rfl) (pe_op op_mod (pe_callTy call_int1 (by rfl) ni (by decide +kernel) (pa_cons (pe_op op_add (pe_op op_add (pe_op op_mul (pv 0) pe_int) (pe_op op_mul (pv 1) pe_int)) pe_int) pa_nil)) pe_int)) (pss_cons 
  (ps_set (i := 3) sc_Lmix.nd rfl (Or.inl rfl) (pe_op op_mod (pe_callTy call_int1 (by rfl) ni (by decide +kernel) (pa_cons (pe_op op_add (pe_op op_add (pe_op op_mul (pv 2) (pv 2)) (pe_op op_mul (pe_op op_fdiv (pv 2) pe_int) pe_int)) (pe_op op_mul (pv 1) pe_int)) pa_nil)) pe_int)) (pss_one 
  (ps_ret (pe_op op_fdiv (pe_op op_mod (pe_callTy call_int1 (by rfl) ni (by decide +kernel) (pa_cons (pe_op op_add (pe_op op_fdiv (pe_op op_mul (pv 3) (pv 3)) pe_int) (pv 2)) pa_nil)) pe_int) pe_int))))), ?_⟩
    refine ⟨_, rfl, _, _, rfl, rfl, .inr (by decide), _, rfl, _, _, rfl, rfl, .inr (by decide), _, _, rfl, rfl, _, _, rfl, rfl, .inl ⟨_, rfl, ?_⟩⟩
    refine ⟨_, _, rfl, rfl, (by show (0 : Int) < 2147483647; decide), ?_⟩
    have b1 := Int.emod_nonneg (n * 48271 + t * 16807 + 11) (b := 2147483647) (by decide)
    have b2 := Int.emod_lt_of_pos (n * 48271 + t * 16807 + 11) (b := 2147483647) (by decide)
    generalize (n * 48271 + t * 16807 + 11) % 2147483647 = o at b1 b2 ⊢
    refine ⟨_, rfl, _, rfl, _, _, rfl, rfl, .inl ⟨by omega, by omega⟩, ?_⟩
    refine ⟨_, rfl, _, _, rfl, rfl, ⟨by decide, by decide⟩, _, _, rfl, rfl, .inr (by decide), _, _, rfl, rfl, _, rfl, _, _, rfl, rfl, .inr (by decide), _, _, rfl, rfl, .inl ⟨_, rfl, ?_⟩⟩
    refine ⟨_, _, rfl, rfl, (by show (0 : Int) < 2147483399; decide), ?_⟩
    have b3 := Int.emod_nonneg (o * o + o / 127 * 40692 + t * 69621) (b := 2147483399) (by decide)
    have b4 := Int.emod_lt_of_pos (o * o + o / 127 * 40692 + t * 69621) (b := 2147483399) (by decide)
    generalize (o * o + o / 127 * 40692 + t * 69621) % 2147483399 = u at b3 b4 ⊢
    refine ⟨_, rfl, _, rfl, _, _, rfl, rfl, .inl ⟨by omega, by omega⟩, _, _, rfl, rfl, ⟨by decide, by decide⟩, _, rfl, _, _, rfl, rfl, .inl ⟨_, rfl, ?_⟩⟩
    refine ⟨_, _, rfl, rfl, (by show (0 : Int) < 2147483563; decide), _, _, rfl, rfl, ⟨by decide, by decide⟩, k _ ?_⟩
    have b5 := Int.emod_nonneg (u * u / 1009 + o) (b := 2147483563) (by decide)
    omega
end
end J

set_option Elab.async false
set_option linter.all false
set_option maxRecDepth 100000
set_option maxHeartbeats 2000000
namespace J
open PySem PySem.Spec PyProof.Rows L2
/-! ### the hand that is drawn from -/
/-- at h the hand stands: its cells at q -/
def Hand (H : Hp) (h q : Addr) : Prop := ∃ (cs : List Int) (i r t : Int), H h = some (.lst [.ref q, .int i, .int r, .int t]) ∧ H q = some (.lst (cs.map V.int)) ∧ q ≠ h ∧ 0 ≤ i ∧ 0 ≤ r ∧ 0 ≤ t ∧ t < 2147483629 ∧ (∀ c ∈ cs, 0 ≤ c) ∧ cs.length ≤ 63
/-- all that was tracked stands as it stood, but for what is at h -/
def But (h : Addr) (H H' : Hp) : Prop := ∀ b o, b ≠ h → H b = some o → H' b = some o
theorem But.refl (h : Addr) (H : Hp) : But h H H := fun _ _ _ e => e
theorem But.trans {h : Addr} {H H1 H2 : Hp} (a : But h H H1) (b : But h H1 H2) : But h H H2 := fun c o n e => b c o n (a c o n e)
theorem But.put {h : Addr} {H : Hp} {o : HO} : But h H (upd H h o) := fun c u n e => by rw [upd_ne n]; exact e
theorem But.new {h a : Addr} {H : Hp} {o : HO} (n : H a = none) : But h H (upd H a o) := fun c u _ e => by rw [upd_ne (ne_of_none e n)]; exact e
theorem But.same {h : Addr} {H H1 : Hp} (s : Same H H1) : But h H H1 := fun c o _ e => s c o e
theorem Hand.keep {H H' : Hp} {h q : Addr} (x : Hand H h q) (s : Same H H') : Hand H' h q := by
  obtain ⟨cs, i, r, t, e1, e2, z⟩ := x
  exact ⟨cs, i, r, t, s _ _ e1, s _ _ e2, z⟩
theorem Hand.put {H : Hp} {h q a : Addr} {o : HO} (x : Hand H h q) (n1 : h ≠ a) (n2 : q ≠ a) : Hand (upd H a o) h q := by
  obtain ⟨cs, i, r, t, e1, e2, z⟩ := x
  exact ⟨cs, i, r, t, by rw [upd_ne n1]; exact e1, by rw [upd_ne n2]; exact e2, z⟩
theorem Hand.new {H : Hp} {h q a : Addr} {o : HO} (x : Hand H h q) (n : H a = none) : Hand (upd H a o) h q :=
  x.keep fun c u e => by rw [upd_ne (ne_of_none e n)]; exact e
theorem yesT {A B : Hp → Prop} {σ : L2.St} {H : Hp} (h : A H) : tYes σ H (fun b H3 => if b = true then A H3 else B H3) := by
  show if true = true then A H else B H
  rw [if_pos rfl]
  exact h
abbrev s_Lhand : Stmt := top 25
theorem sc_Lhand : FnScope ["_law_script", "_law_total", "_law_k", "_law_cell"] ["_law_script"] (defScope s_Lhand) := ⟨rfl, rfl, rfl, by decide +kernel, rfl, by decide +kernel, by decide +kernel⟩
def spHand (K : PySem.W.Frag) : Sp := fun vs H Q _ => ∃ (a : Addr) (ns : List Int), vs = [.ref a] ∧ SqL K H a (ns.map V.int) ∧ ns.length ≤ 63 ∧ ∀ (H' : Hp) (h q : Addr), Same H H' → H h = none → H q = none → Hand H' h q → Q (.ref h) H'
section
variable {P : Program} {w : World} {K : PySem.W.Frag} {mg : Str → Option Value} {base : Heap}
theorem ok_Lhand {f : Addr} {fd : FuncData} (F : Fun K "_law_hand" "_law_hand" s_Lhand f fd) (ni : mg "int" = none) (na : mg "abs" = none) (ne : mg "enumerate" = none) : FnOk P w K mg base CX0 1 f fd ["_law_script"] (spHand K) := by
  refine F.ok sc_Lhand (fun vs H Q E h => ?_) (fun cdv A outer s H vs Q E hr h => ?_)
  · obtain ⟨a, ns, rfl, _⟩ := h
    rfl
  · obtain ⟨a, ns, rfl, hS, hn, k⟩ := h
    refine ⟨_, (pss_cons 
  (ps_set (i := 1) sc_Lhand.nd rfl (Or.inl rfl) pe_int) (pss_cons 
  (ps_for PassesOwn.never rfl (pi_enum (by rfl) ne (pa_cons (pv 0) pa_nil)) (pg_tup (by rfl) (pgs_cons (pg_name (i := 2) sc_Lhand.nd rfl (Or.inl rfl)) (pgs_cons (pg_name (i := 3) sc_Lhand.nd rfl (Or.inl rfl)) pgs_nil))) (pss_one 
    (ps_set (i := 1) sc_Lhand.nd rfl (Or.inl rfl) (pe_op op_mod (pe_callTy call_int1 (by rfl) ni (by decide +kernel) (pa_cons (pe_op op_add (pe_op op_mul (pv 1) pe_int) (pe_op op_mul (pe_callTy call_int1 (by rfl) ni (by decide +kernel) (pa_cons (pv 3) pa_nil)) (pe_op op_add (pv 2) pe_int))) pa_nil)) pe_int)))) (pss_one 
  (ps_ret (pe_lst (pa_cons (pe_lc (own := [("_law_cell", 3)]) (g := gName 3) (by rfl) sc_Lhand.nd (pi_list (pv 0)) (blkOk_by (own := [("_law_cell", 3)]) (N := ["_law_script", "_law_total", "_law_k", "_law_cell"]) (sc := defScope s_Lhand) (by decide +kernel)) (fun _ _ _ _ _ => pg_name (i := 3) sc_Lhand.nd rfl (Or.inl rfl)) (fun _ _ _ _ _ => pts_nil) (fun _ _ _ _ _ => (pe_callB call_abs (by rfl) na (by decide +kernel) (pa_cons (pe_callTy call_int1 (by rfl) ni (by decide +kernel) (pa_cons (pv 3) pa_nil)) pa_nil)))) (pa_cons pe_int (pa_cons pe_int (pa_cons (pv 1) pa_nil))))))))), ?_⟩
    refine ⟨_, rfl, a, _, rfl, hS, for_enum (K := K) (a := a) (xs := ns.map V.int) (fun i σ H' => ∃ (t : Int) (v2 v3 : Option V), σ = [some (.ref a), some (.int t), v2, v3] ∧ Same H H' ∧ 0 ≤ t ∧ t < 2147483629)
      ⟨0, none, none, rfl, Same.refl H, by decide, by decide⟩ (fun i σ H' _ ⟨_, _, _, _, S, _⟩ => S.seq hS) ?_ ?_⟩
    · rintro i x σ H' T hx ⟨t, v2, v3, rfl, S, t0, t1⟩ hT
      obtain ⟨c, rfl⟩ : ∃ c, x = V.int c := by
        rw [List.getElem?_map] at hx
        cases e : ns[i]? with
        | none => rw [e] at hx; cases hx
        | some c => rw [e] at hx; exact ⟨c, (Option.some.inj hx).symm⟩
      have hi : i < 63 := by
        have q := (List.getElem?_eq_some_iff.mp hx).1
        rw [List.length_map] at q
        omega
      refine ⟨T, _, rfl, SqT.of upd_same, rfl, _, _, rfl, _, _, rfl, rfl, ?_⟩
      refine ⟨_, rfl, _, _, rfl, rfl, .inr (by decide), _, rfl, .inl ⟨_, rfl, _, rfl, _, _, rfl, rfl, _, _, rfl, rfl, .inr ⟨by omega, by omega⟩, _, _, rfl, rfl, .inl ⟨_, rfl, _, _, rfl, rfl, (by show (0 : Int) < 2147483629; decide), ?_⟩⟩⟩
      refine ⟨_, _, _, rfl, fun b o e => ?_, Int.emod_nonneg _ (by decide), Int.emod_lt_of_pos _ (by decide)⟩
      rw [upd_ne (ne_of_none (S _ _ e) hT)]
      exact S _ _ e
    · rintro σ H' ⟨t, v2, v3, rfl, S, t0, t1⟩
      refine ⟨_, rfl, a, rfl, ⟨_, S.seq hS⟩, fun D hD => ?_⟩
      refine lc_list (K := K) (a := a) (xs := ns.map V.int) (fun i H1 => Same H H1 ∧ H D = none ∧ H1 D = some (.lst ((ns.take i).map fun c => V.int (if c < 0 then -c else c)))) ⟨fun b o e => ?_, S.free hD, upd_same⟩ (fun i H1 _ ⟨S1, _⟩ => S1.seq hS) ?_ ?_
      · rw [upd_ne (ne_of_none (S _ _ e) hD)]
        exact S _ _ e
      · rintro i x H1 hx ⟨S1, D0, e1⟩
        obtain ⟨c, hc, rfl⟩ : ∃ c, ns[i]? = some c ∧ x = V.int c := by
          rw [List.getElem?_map] at hx
          cases e : ns[i]? with
          | none => rw [e] at hx; cases hx
          | some c => rw [e] at hx; exact ⟨c, rfl, (Option.some.inj hx).symm⟩
        refine ⟨rfl, yesT ?_⟩
        refine ⟨_, rfl, .inl ⟨_, rfl, _, rfl, _, e1, ?_, fun b o e => ?_, D0, ?_⟩⟩
        · rw [List.length_map, List.length_take]
          exact small1000 (by omega)
        · rw [upd_ne (ne_of_none e D0)]
          exact S1 _ _ e
        · rw [upd_same, List.take_add_one, hc, List.map_append]
          rfl
      · rintro H1 ⟨S1, D0, e1⟩
        rw [List.length_map, List.take_length] at e1
        refine ⟨_, rfl, (by show 4 ≤ sizeLine; decide), fun p hp => k _ p D (fun b o e => ?_) (S1.free hp) D0 ?_⟩
        · rw [upd_ne (ne_of_none (S1 _ _ e) hp)]
          exact S1 _ _ e
        · refine ⟨ns.map fun c => if c < 0 then -c else c, 0, 0, t, upd_same, ?_, ne_of_none e1 hp, by decide, by decide, t0, t1, ?_, by rw [List.length_map]; exact hn⟩
          · rw [upd_ne (ne_of_none e1 hp), e1, List.map_map]
            rfl
          · intro c hc
            obtain ⟨z, _, rfl⟩ := List.mem_map.mp hc
            split <;> omega
end
end J

set_option Elab.async false
set_option linter.all false
set_option maxRecDepth 100000
set_option maxHeartbeats 2000000
namespace J
open PySem PySem.Spec PyProof.Rows L2
theorem ifD {c A B : Prop} [Decidable c] (h1 : c → A) (h2 : ¬ c → B) : if decide c = true then A else B := by
  by_cases h : c
  · rw [if_pos (decide_eq_true h)]
    exact h1 h
  · rw [if_neg (by simp [h])]
    exact h2 h
theorem v_int {a b : Int} (h : a = b) : V.int a = V.int b := by rw [h]
abbrev s_Ldraw : Stmt := top 26
theorem sc_Ldraw : FnScope ["_law_hand_here", "_law_many", "_law_cell", "_law_rest"] ["_law_hand_here", "_law_many"] (defScope s_Ldraw) := ⟨rfl, rfl, rfl, by decide +kernel, rfl, by decide +kernel, by decide +kernel⟩
def spDraw : Sp := fun vs H Q _ => ∃ (h q : Addr) (m : Int), vs = [.ref h, .int m] ∧ 0 < m ∧ m < 2 ^ 62 ∧ Hand H h q ∧ ∀ (v : Int) (H' : Hp), 0 ≤ v → v < m → But h H H' → Hand H' h q → Q (.int v) H'
theorem hand_put {H : Hp} {h q : Addr} {cs : List Int} {i r t : Int} (e2 : H q = some (.lst (cs.map V.int))) (nq : q ≠ h) (i0 : 0 ≤ i) (r0 : 0 ≤ r) (t0 : 0 ≤ t) (t1 : t < 2147483629) (hc : ∀ c ∈ cs, 0 ≤ c) (hl : cs.length ≤ 63) :
    Hand (upd H h (.lst [.ref q, .int i, .int r, .int t])) h q := ⟨cs, i, r, t, upd_same, by rw [upd_ne nq]; exact e2, nq, i0, r0, t0, t1, hc, hl⟩
theorem fmod_in {a m : Int} (h : 0 < m) : 0 ≤ a.fmod m ∧ a.fmod m < m := by
  rw [Int.fmod_eq_emod_of_nonneg a (by omega)]
  exact ⟨Int.emod_nonneg _ (by omega), Int.emod_lt_of_pos _ h⟩
section
variable {P : Program} {w : World} {K : PySem.W.Frag} {mg : Str → Option Value} {base : Heap}
theorem ok_Ldraw {f fM : Addr} {fd fdM : FuncData} (F : Fun K "_law_draw" "_law_draw" s_Ldraw f fd) (ni : mg "int" = none) (nl : mg "len" = none) (GM : Cal P w K mg base CX0 1 "_law_mix" fM fdM ["_law_number", "_law_turn"] spMix) : FnOk P w K mg base CX0 2 f fd ["_law_hand_here", "_law_many"] spDraw := by
  refine F.ok sc_Ldraw (fun vs H Q E h => ?_) (fun cdv A outer s H vs Q E hr h => ?_)
  · obtain ⟨n, q, t, rfl, _⟩ := h
    rfl
  · obtain ⟨h, q, m, rfl, m0, m1, ⟨cs, i, r, t, e1, e2, nq, i0, r0, t0, t1, hc, hl⟩, k⟩ := h
    refine ⟨_, (C8.pss_cut 
  (ps_if (PW.pt (pw_and (pt_cmpR op_eq (pe_ix ix_list (pv 0) pe_int (fun _ _ => rfl)) pe_int (nomark _)) (pw_and1 (pt_cmpR op_lt (pe_ix ix_list (pv 0) pe_int (fun _ _ => rfl)) (pe_callB call_len_seq (by rfl) nl PySem.boot_len (pa_cons (pe_ix ix_list (pv 0) pe_int (fun _ _ => rfl)) pa_nil)) (nomark _))))) (pss_cons 
    (ps_set (i := 2) sc_Ldraw.nd rfl (Or.inl rfl) (pe_ix ix_list (pe_ix ix_list (pv 0) pe_int (fun _ _ => rfl)) (pe_ix ix_list (pv 0) pe_int (fun _ _ => rfl)) (fun _ _ => rfl))) (pss_cons 
    (ps_asg (pe_op op_add (pe_ix ix_list (pv 0) pe_int (fun _ _ => rfl)) pe_int) (pg_sub (pv 0) pe_int set_list)) (pss_cons 
    (ps_if (pt_cmpR op_lt (pv 2) (pe_op op_pow pe_int pe_int) (nomark _)) (pss_one 
      (ps_ret (pe_op op_modN (pe_callTy call_int1 (by rfl) ni (by decide +kernel) (pa_cons (pcal GM hr pass0 (pa_cons (pe_op op_mod (pe_callTy call_int1 (by rfl) ni (by decide +kernel) (pa_cons (pv 2) pa_nil)) pe_int) (pa_cons (pe_ix ix_list (pv 0) pe_int (fun _ _ => rfl)) pa_nil))) pa_nil)) (pv 1)))) pss_nil) (pss_one 
    (ps_asg (pv 2) (pg_sub (pv 0) pe_int set_list)))))) pss_nil) (pss_cons 
  (ps_if (pt_cmpR op_gt (pe_ix ix_list (pv 0) pe_int (fun _ _ => rfl)) pe_int (nomark _)) (pss_cons 
    (ps_set (i := 3) sc_Ldraw.nd rfl (Or.inl rfl) (pe_ix ix_list (pv 0) pe_int (fun _ _ => rfl))) (pss_cons 
    (ps_asg (pe_op op_fdivW (pv 3) (pv 1)) (pg_sub (pv 0) pe_int set_list)) (pss_one 
    (ps_ret (pe_op op_modN (pe_callTy call_int1 (by rfl) ni (by decide +kernel) (pa_cons (pv 3) pa_nil)) (pv 1)))))) pss_nil) (pss_cons 
  (ps_asg (pe_op op_mod (pe_callTy call_int1 (by rfl) ni (by decide +kernel) (pa_cons (pe_op op_add (pe_ix ix_list (pv 0) pe_int (fun _ _ => rfl)) pe_int) pa_nil)) pe_int) (pg_sub (pv 0) pe_int set_list)) (pss_one 
  (ps_ret (pe_op op_modN (pe_callTy call_int1 (by rfl) ni (by decide +kernel) (pa_cons (pcal GM hr pass0 (pa_cons (pe_ix ix_list (pv 0) pe_int (fun _ _ => rfl)) (pa_cons (pe_ix ix_list (pv 0) pe_int (fun _ _ => rfl)) pa_nil))) pa_nil)) (pv 1))))))), ?_⟩
    refine ⟨fun σ' H' => ∃ (v2 : Option V) (i r t : Int), σ' = [some (.ref h), some (.int m), v2, none] ∧ But h H H' ∧ H' h = some (.lst [.ref q, .int i, .int r, .int t]) ∧ 0 ≤ i ∧ 0 ≤ r ∧ 0 ≤ t ∧ t < 2147483629, ?_, ?_⟩
    · -- hand[2] == 0
      refine ⟨_, rfl, _, _, _, _, rfl, rfl, SqL.of e1, rfl, rfl, _, rfl, ?_⟩
      refine ifD (fun c1 => ?_) (fun c1 => iteF ⟨none, i, r, t, rfl, But.refl h H, e1, i0, r0, t0, t1⟩)
      refine ⟨_, rfl, _, _, _, _, rfl, rfl, SqL.of e1, rfl, _, rfl, _, _, _, _, rfl, rfl, SqL.of e1, rfl, _, _, rfl, .inl (SqL.of e2), _, _, rfl, rfl, _, rfl, ?_⟩
      refine ifD (fun c2 => ?_) (fun c2 => ⟨none, i, r, t, rfl, But.refl h H, e1, i0, r0, t0, t1⟩)
      rw [List.length_map] at c2
      have hi : i.toNat < cs.length := by omega
      have hic : ((i.toNat : Nat) : Int) = i := Int.toNat_of_nonneg i0
      have hat : (cs.map V.int)[i.toNat]? = some (V.int cs[i.toNat]) := by
        rw [List.getElem?_map, List.getElem?_eq_getElem hi]
        rfl
      have cp : 0 ≤ cs[i.toNat] := hc _ (List.getElem_mem hi)
      generalize cs[i.toNat] = c at hat cp
      refine ⟨_, rfl, _, _, _, _, rfl, rfl, SqL.of e1, rfl, _, rfl, _, _, _, _, rfl, rfl, SqL.of e1, rfl, _, _, _, _, rfl, rfl, SqL.of e2, at_of hic.symm hat, ?_⟩
      refine ⟨_, rfl, _, _, _, _, rfl, rfl, SqL.of e1, rfl, _, _, rfl, rfl, _, rfl, _, _, _, _, rfl, rfl, e1, rfl, ?_⟩
      have e3 : (upd H h (.lst [.ref q, .int (i + 1), .int r, .int t])) h = some (.lst [.ref q, .int (i + 1), .int r, .int t]) := upd_same
      refine ⟨_, rfl, _, _, rfl, rfl, ⟨by decide, by decide, by decide⟩, _, _, rfl, rfl, _, rfl, ?_⟩
      refine ifD (fun c3 => ?_) (fun c3 => ?_)
      · refine ⟨_, rfl, .inl ⟨_, rfl, _, _, rfl, rfl, (by show (0 : Int) < 2147483647; decide), _, rfl, _, _, _, _, rfl, rfl, SqL.of e3, rfl, _, _, rfl, fun z z0 => .inl ⟨_, rfl, _, rfl, _, _, rfl, rfl, (by show m ≠ 0; omega), ?_⟩⟩⟩
        exact k _ _ (fmod_in m0).1 (fmod_in m0).2 But.put (hand_put e2 nq (by omega) r0 t0 t1 hc hl)
      · refine ⟨_, rfl, _, rfl, _, _, _, _, rfl, rfl, e3, rfl, ?_⟩
        exact ⟨_, i + 1, c, t, rfl, But.put.trans But.put, upd_same, by omega, cp, t0, t1⟩
    · rintro σ' H' ⟨v2, i, r, t, rfl, B1, e1, i0, r0, t0, t1⟩
      have e2' := B1 _ _ nq e2
      refine ⟨_, rfl, _, _, _, _, rfl, rfl, SqL.of e1, rfl, _, _, rfl, rfl, _, rfl, ?_⟩
      refine ifD (fun c1 => ?_) (fun c1 => ?_)
      · refine ⟨_, rfl, _, _, _, _, rfl, rfl, SqL.of e1, rfl, _, rfl, _, rfl, _, _, rfl, rfl, wide_div (b := 62) m0 (by omega) (by decide) (by decide), _, rfl, _, _, _, _, rfl, rfl, e1, rfl, ?_⟩
        refine ⟨_, rfl, .inl ⟨_, rfl, _, rfl, _, _, rfl, rfl, (by show m ≠ 0; omega), ?_⟩⟩
        exact k _ _ (fmod_in m0).1 (fmod_in m0).2 (B1.trans But.put) (hand_put e2' nq i0 (Int.ediv_nonneg r0 (by omega)) t0 t1 hc hl)
      · refine ⟨_, rfl, _, _, _, _, rfl, rfl, SqL.of e1, rfl, _, _, rfl, rfl, .inl ⟨_, rfl, _, _, rfl, rfl, (by show (0 : Int) < 2147483629; decide), _, rfl, _, _, _, _, rfl, rfl, e1, rfl, ?_⟩⟩
        have e3 : (upd H' h (.lst [.ref q, .int i, .int r, .int ((t + 1) % 2147483629)])) h = some (.lst [.ref q, .int i, .int r, .int ((t + 1) % 2147483629)]) := upd_same
        refine ⟨_, rfl, _, _, _, _, rfl, rfl, SqL.of e3, rfl, _, rfl, _, _, _, _, rfl, rfl, SqL.of e3, rfl, _, _, rfl, fun z z0 => .inl ⟨_, rfl, _, rfl, _, _, rfl, rfl, (by show m ≠ 0; omega), ?_⟩⟩
        exact k _ _ (fmod_in m0).1 (fmod_in m0).2 (B1.trans But.put) (hand_put e2' nq i0 r0 (Int.emod_nonneg _ (by decide)) (Int.emod_lt_of_pos _ (by decide)) hc hl)
end
end J

set_option Elab.async false
set_option linter.all false
set_option maxRecDepth 100000
set_option maxHeartbeats 2000000
namespace J
open PySem PySem.Spec PyProof.Rows L2
/-! ### things of many kinds -/
/-- the shape of a thing -/
inductive Sh where
  | sc (v : V) | dk | lst (xs : List V) | tup (xs : List V)
def isSc : V → Bool
  | .non => true | .bl _ => true | .int _ => true | .str _ => true | _ => false
def Is (H : Hp) (x : V) : Sh → Prop
  | .sc v => x = v ∧ isSc v = true
  | .dk => ∃ a kvs, x = .ref a ∧ H a = some (.dK kvs)
  | .lst xs => ∃ a, x = .ref a ∧ H a = some (.lst xs)
  | .tup xs => ∃ a, x = .ref a ∧ H a = some (.tup xs)
def Sh.int : Sh → Bool
  | .sc (.int _) => true | _ => false
def Sh.bl : Sh → Bool
  | .sc (.bl _) => true | _ => false
def Sh.isL : Sh → Bool
  | .lst _ => true | _ => false
def Sh.isT : Sh → Bool
  | .tup _ => true | _ => false
theorem Is.keep {H H' : Hp} {x : V} {s : Sh} (h : Is H x s) (S : Same H H') : Is H' x s := by
  cases s with
  | sc v => exact h
  | dk => obtain ⟨a, kvs, e, q⟩ := h; exact ⟨a, kvs, e, S _ _ q⟩
  | lst xs => obtain ⟨a, e, q⟩ := h; exact ⟨a, e, S _ _ q⟩
  | tup xs => obtain ⟨a, e, q⟩ := h; exact ⟨a, e, S _ _ q⟩
theorem kt_NoneType_int : kitB "NoneType" "int" = some false := by decide +kernel
theorem kt_NoneType_bool : kitB "NoneType" "bool" = some false := by decide +kernel
theorem kt_NoneType_list : kitB "NoneType" "list" = some false := by decide +kernel
theorem kt_NoneType_tuple : kitB "NoneType" "tuple" = some false := by decide +kernel
theorem kt_bool_int : kitB "bool" "int" = some true := by decide +kernel
theorem kt_bool_bool : kitB "bool" "bool" = some true := by decide +kernel
theorem kt_bool_list : kitB "bool" "list" = some false := by decide +kernel
theorem kt_bool_tuple : kitB "bool" "tuple" = some false := by decide +kernel
theorem kt_int_int : kitB "int" "int" = some true := by decide +kernel
theorem kt_int_bool : kitB "int" "bool" = some false := by decide +kernel
theorem kt_int_list : kitB "int" "list" = some false := by decide +kernel
theorem kt_int_tuple : kitB "int" "tuple" = some false := by decide +kernel
theorem kt_str_int : kitB "str" "int" = some false := by decide +kernel
theorem kt_str_bool : kitB "str" "bool" = some false := by decide +kernel
theorem kt_str_list : kitB "str" "list" = some false := by decide +kernel
theorem kt_str_tuple : kitB "str" "tuple" = some false := by decide +kernel
theorem kt_dict_int : kitB "dict" "int" = some false := by decide +kernel
theorem kt_dict_bool : kitB "dict" "bool" = some false := by decide +kernel
theorem kt_dict_list : kitB "dict" "list" = some false := by decide +kernel
theorem kt_dict_tuple : kitB "dict" "tuple" = some false := by decide +kernel
theorem kt_list_int : kitB "list" "int" = some false := by decide +kernel
theorem kt_list_bool : kitB "list" "bool" = some false := by decide +kernel
theorem kt_list_list : kitB "list" "list" = some true := by decide +kernel
theorem kt_list_tuple : kitB "list" "tuple" = some false := by decide +kernel
theorem kt_tuple_int : kitB "tuple" "int" = some false := by decide +kernel
theorem kt_tuple_bool : kitB "tuple" "bool" = some false := by decide +kernel
theorem kt_tuple_list : kitB "tuple" "list" = some false := by decide +kernel
theorem kt_tuple_tuple : kitB "tuple" "tuple" = some true := by decide +kernel
theorem Is.ty {K : PySem.W.Frag} {H : Hp} {x : V} {s : Sh} (h : Is H x s) : ∃ t : String, TyX K H x (.type t) ∧ kitB t "int" = some (s.int || s.bl) ∧ kitB t "bool" = some s.bl ∧ kitB t "list" = some s.isL ∧ kitB t "tuple" = some s.isT := by
  cases s with
  | sc v =>
    obtain ⟨rfl, e⟩ := h
    cases x with
    | non => exact ⟨_, .base .non, kt_NoneType_int, kt_NoneType_bool, kt_NoneType_list, kt_NoneType_tuple⟩
    | bl b => exact ⟨_, .base (.bl b), kt_bool_int, kt_bool_bool, kt_bool_list, kt_bool_tuple⟩
    | int b => exact ⟨_, .base (.int b), kt_int_int, kt_int_bool, kt_int_list, kt_int_tuple⟩
    | str b => exact ⟨_, .base (.str b), kt_str_int, kt_str_bool, kt_str_list, kt_str_tuple⟩
    | byt b => cases e
    | flt b => cases e
    | ref b => cases e
    | ty b => cases e
  | dk => obtain ⟨a, kvs, rfl, q⟩ := h; exact ⟨_, .base (.dK q), kt_dict_int, kt_dict_bool, kt_dict_list, kt_dict_tuple⟩
  | lst xs => obtain ⟨a, rfl, q⟩ := h; exact ⟨_, .base (.lst q), kt_list_int, kt_list_bool, kt_list_list, kt_list_tuple⟩
  | tup xs => obtain ⟨a, rfl, q⟩ := h; exact ⟨_, .base (.tup q), kt_tuple_int, kt_tuple_bool, kt_tuple_list, kt_tuple_tuple⟩
/-- isinstance(x, (list, tuple)) -/
theorem kit_seq {K : PySem.W.Frag} {t : String} {a b : Bool} (h1 : kitB t "list" = some a) (h2 : kitB t "tuple" = some b) : PySem.W.kitAny K (.type t) [.type "list", .type "tuple"] = some (a || b) :=
  kitAny_cons (kit_ty h1) (fun e => by subst e; exact kitAny_cons (kit_ty h2) (fun e => by subst e; exact kitAny_nil) (fun e => by subst e; rfl)) (fun e => by subst e; rfl)
def wholeB (x : V) (lo hi : Int) : Bool := match x with
  | .int i => decide (lo ≤ i) && decide (i ≤ hi)
  | _ => false

abbrev s_is_whole : Stmt := top 11
theorem sc_is_whole : FnScope ["thing", "low", "high"] ["thing", "low", "high"] (defScope s_is_whole) := ⟨rfl, rfl, rfl, by decide +kernel, rfl, by decide +kernel, by decide +kernel⟩
def spWhole : Sp := fun vs H Q _ => ∃ (x : V) (s : Sh) (lo hi : Int), vs = [x, .int lo, .int hi] ∧ Is H x s ∧ Q (.bl (wholeB x lo hi)) H
theorem if_tr {A B : Prop} {c : Bool} (e : c = true) (h : A) : if c = true then A else B := by rw [if_pos e]; exact h
theorem if_fa {A B : Prop} {c : Bool} (e : c = false) (h : B) : if c = true then A else B := by rw [if_neg (by simp [e])]; exact h
section
variable {P : Program} {w : World} {K : PySem.W.Frag} {mg : Str → Option Value} {base : Heap}
theorem ok_is_whole {f : Addr} {fd : FuncData} (F : Fun K "is_whole" "is_whole" s_is_whole f fd) (ns : mg "isinstance" = none) (ni : mg "int" = none) (nb : mg "bool" = none) : FnOk P w K mg base CX0 1 f fd ["thing", "low", "high"] spWhole := by
  refine F.ok sc_is_whole (fun vs H Q E h => ?_) (fun cdv A outer s H vs Q E hr h => ?_)
  · obtain ⟨x, s, lo, hi, rfl, _⟩ := h
    rfl
  · obtain ⟨x, sh, lo, hi, rfl, hx, k⟩ := h
    refine ⟨_, (pss_one 
  (ps_ret (pe_and (pe_callB call_isi (by rfl) ns (by decide +kernel) (pa_cons (pv 0) (pa_cons (pe_bltn (by rfl) ni (by decide +kernel) (v := .ty "int") rfl) pa_nil))) (pe_and (pe_not (pe_callB call_isi (by rfl) ns (by decide +kernel) (pa_cons (pv 0) (pa_cons (pe_bltn (by rfl) nb (by decide +kernel) (v := .ty "bool") rfl) pa_nil)))) (pe_one (pe_chain op_le op_le (pv 1) (pv 0) (pv 2))))))), ?_⟩
    obtain ⟨t, ht, k1, k2, _⟩ := hx.ty (K := K)
    refine ⟨_, rfl, _, _, _, _, _, rfl, .ty "int", ht, kit_ty k1, _, rfl, ?_⟩
    cases e1 : sh.int with
    | true =>
      obtain ⟨i, rfl⟩ : ∃ i, sh = .sc (.int i) := by
        cases sh with
        | sc v => cases v <;> first | exact ⟨_, rfl⟩ | cases e1
        | _ => cases e1
      obtain ⟨rfl, _⟩ := hx
      refine if_tr rfl ?_
      refine ⟨_, rfl, _, _, _, _, _, rfl, .ty "bool", ht, kit_ty k2, _, rfl, _, rfl, ?_⟩
      refine if_tr rfl ?_
      refine ⟨_, rfl, _, rfl, _, _, rfl, rfl, _, rfl, ?_⟩
      by_cases c : lo ≤ i
      · refine if_tr (decide_eq_true c) ⟨_, rfl, _, _, rfl, rfl, ?_⟩
        have e : wholeB (.int i) lo hi = decide (i ≤ hi) := by
          show (decide (lo ≤ i) && decide (i ≤ hi)) = _
          rw [decide_eq_true c, Bool.true_and]
        rw [e] at k
        exact k
      · refine if_fa (decide_eq_false c) ?_
        have e : wholeB (.int i) lo hi = false := by
          show (decide (lo ≤ i) && decide (i ≤ hi)) = _
          rw [decide_eq_false c, Bool.false_and]
        rw [e] at k
        exact k
    | false =>
      have e : wholeB x lo hi = false := by
        cases sh with
        | sc v =>
          obtain ⟨rfl, _⟩ := hx
          cases x <;> first | rfl | cases e1
        | dk => obtain ⟨a, _, rfl, _⟩ := hx; rfl
        | lst => obtain ⟨a, rfl, _⟩ := hx; rfl
        | tup => obtain ⟨a, rfl, _⟩ := hx; rfl
      rw [e] at k
      cases e2 : sh.bl with
      | true =>
        refine if_tr rfl ?_
        refine ⟨_, rfl, _, _, _, _, _, rfl, .ty "bool", ht, kit_ty (e2 ▸ k2), _, rfl, _, rfl, ?_⟩
        exact if_fa rfl k
      | false => exact if_fa rfl k
abbrev s_is_label : Stmt := top 12
theorem sc_is_label : FnScope ["thing"] ["thing"] (defScope s_is_label) := ⟨rfl, rfl, rfl, by decide +kernel, rfl, by decide +kernel, by decide +kernel⟩
def spLabel : Sp := fun vs H Q _ => ∃ (x : V) (s : Sh), vs = [x] ∧ Is H x s ∧ Q (.bl (wholeB x 0 1000000000)) H
theorem ok_is_label {f fW : Addr} {fd fdW : FuncData} (F : Fun K "is_label" "is_label" s_is_label f fd) (GW : Cal P w K mg base CX0 1 "is_whole" fW fdW ["thing", "low", "high"] spWhole) (mL : ∃ t, mg "MOST_LABEL" = some (.int 1000000000 t)) : FnOk P w K mg base CX0 2 f fd ["thing"] spLabel := by
  obtain ⟨t, mL⟩ := mL
  refine F.ok sc_is_label (fun vs H Q E h => ?_) (fun cdv A outer s H vs Q E hr h => ?_)
  · obtain ⟨x, s, rfl, _⟩ := h
    rfl
  · obtain ⟨x, sh, rfl, hx, k⟩ := h
    refine ⟨_, (pss_one 
  (ps_ret (pcal GW hr pass0 (pa_cons (pv 0) (pa_cons pe_int (pa_cons (pe_glob (v := .int 1000000000) rfl mL ⟨_, rfl⟩) pa_nil)))))), ?_⟩
    exact ⟨_, rfl, x, sh, 0, 1000000000, rfl, hx, k⟩
abbrev s_is_sequence : Stmt := top 13
theorem sc_is_sequence : FnScope ["thing"] ["thing"] (defScope s_is_sequence) := ⟨rfl, rfl, rfl, by decide +kernel, rfl, by decide +kernel, by decide +kernel⟩
def spSeq : Sp := fun vs H Q _ => ∃ (x : V) (s : Sh), vs = [x] ∧ Is H x s ∧ ∀ H', Same H H' → Q (.bl (s.isL || s.isT)) H'
theorem new_same {H : Hp} {p : Addr} {o : HO} (n : H p = none) : Same H (upd H p o) := fun b u e => by
  rw [upd_ne (ne_of_none e n)]
  exact e
/-- the test isinstance(x, (list, tuple)) -/
theorem isi_seq {K : PySem.W.Frag} {H : Hp} {x : V} {s : Sh} {Q : VK} (hx : Is H x s) (k : ∀ H', Same H H' → Q (.bl (s.isL || s.isT)) H') : 2 ≤ sizeLine ∧ ∀ p, H p = none → rIsiT K [x, .ref p] (upd H p (.tup [.ty "list", .ty "tuple"])) Q := by
  refine ⟨by decide, fun p hp => ?_⟩
  have S : Same H (upd H p (.tup [.ty "list", .ty "tuple"])) := new_same hp
  obtain ⟨t, ht, _, _, k1, k2⟩ := (hx.keep S).ty (K := K)
  exact ⟨_, _, _, _, _, _, rfl, upd_same, .cons (.ty "list") (.cons (.ty "tuple") .nil), ht, kit_seq k1 k2, k _ S⟩
theorem ok_is_sequence {f : Addr} {fd : FuncData} (F : Fun K "is_sequence" "is_sequence" s_is_sequence f fd) (ns : mg "isinstance" = none) (nl : mg "list" = none) (nt : mg "tuple" = none) : FnOk P w K mg base CX0 1 f fd ["thing"] spSeq := by
  refine F.ok sc_is_sequence (fun vs H Q E h => ?_) (fun cdv A outer s H vs Q E hr h => ?_)
  · obtain ⟨x, s, rfl, _⟩ := h
    rfl
  · obtain ⟨x, sh, rfl, hx, k⟩ := h
    refine ⟨_, (pss_one 
  (ps_ret (pe_callB call_isiT (by rfl) ns (by decide +kernel) (pa_cons (pv 0) (pa_cons (pe_tup (pa_cons (pe_bltn (by rfl) nl (by decide +kernel) (v := .ty "list") rfl) (pa_cons (pe_bltn (by rfl) nt (by decide +kernel) (v := .ty "tuple") rfl) pa_nil))) pa_nil))))), ?_⟩
    exact ⟨_, rfl, isi_seq hx k⟩
end
end J

set_option Elab.async false
set_option linter.all false
set_option maxRecDepth 100000
set_option maxHeartbeats 2000000
namespace J
open PySem PySem.Spec PyProof.Rows L2
/-! ### own errors with one field -/
def spXI (C : Addr) (f : Str) : Sp := fun vs H Q _ => ∃ (a : Addr) (v : V), vs = [.ref a, v] ∧ H a = some (exo a C none) ∧ ∀ dx, H dx = none → dx ≠ a → Q .non (upd (upd H dx (exd dx [(f, v)])) a (exo a C (some dx)))
structure Ex (P : Program) (w : World) (K : PySem.W.Frag) (mg : Str → Option Value) (base : Heap) (x fld : Str) (C fI : Addr) (fd : FuncData) (ps : List Str) : Prop where
  o : OexC K C
  i : PySem.W.findIn K (.ref C) "__init__" = some (some (.ref fI))
  t : PySem.W.typeIn K (.ref fI) = some (.type "function")
  F : FnOk P w K mg base CX0 1 fI fd ps (spXI C fld)
  b : Binds K fd ps []
  m : mg x = some (.ref C)
  xf : XfC K C
  no : PySem.W.findIn K (.ref C) fld = some none
  te : PySem.W.exmOne K (.ref C) (.ref C) = some true
/-- how an error is told: new, with its field -/
def Tells (H : Hp) (C : Addr) (f : Str) (v : V) (E : XK) : Prop := ∀ d H', H d = none → Same H H' → H' d = some (.xd [(f, v)]) → E (.ref C) (some d) H'
theorem mkO_of {C : Addr} {f : Str} {v : V} {H : Hp} {Q : XK} (h : Tells H C f v Q) : [v].length ≤ 1000 ∧ ∀ a, H a = none → spXI C f (.ref a :: ([v] ++ [])) (upd H a (exo a C none))
    (fun u H2 => u = .non ∧ ∃ (d : Addr) (fs : List (Str × V)), H2 a = some (exo a C (some d)) ∧ H2 d = some (exd d fs) ∧ H d = none ∧ Q (.ref C) (some d) (upd (del H2 a) d (.xd fs))) (fun _ _ _ => False) := by
  refine ⟨(by show 1 ≤ 1000; decide), fun a ha => ⟨a, v, rfl, upd_same, fun dx hdx ne => ⟨rfl, dx, [(f, v)], upd_same, ?_, ?_, ?_⟩⟩⟩
  · rw [upd_ne ne, upd_same]
  · rw [upd_ne ne] at hdx
    exact hdx
  · rw [upd_ne ne] at hdx
    refine h _ _ hdx (fun b o e => ?_) upd_same
    rw [upd_ne (ne_of_none e hdx), del_ne (ne_of_none e ha), upd_ne (ne_of_none e ha), upd_ne (ne_of_none e hdx), upd_ne (ne_of_none e ha)]
    exact e
abbrev s_BadTies_init : Stmt := inClass (top 3) 0
abbrev s_NoTie_init : Stmt := inClass (top 4) 0
theorem sc_BadTies_init : FnScope ["self", "what"] ["self", "what"] (defScope s_BadTies_init) := ⟨rfl, rfl, rfl, by decide +kernel, rfl, by decide +kernel, by decide +kernel⟩
theorem sc_NoTie_init : FnScope ["self", "tie"] ["self", "tie"] (defScope s_NoTie_init) := ⟨rfl, rfl, rfl, by decide +kernel, rfl, by decide +kernel, by decide +kernel⟩
section
variable {P : Program} {w : World} {K : PySem.W.Frag} {mg : Str → Option Value} {base : Heap}
theorem ok_BadTies_init {f C : Addr} {fd : FuncData} (F : Fun K "__init__" "BadTies.__init__" s_BadTies_init f fd) (o : OexC K C) (no : PySem.W.findIn K (.ref C) "what" = some none) : FnOk P w K mg base CX0 1 f fd ["self", "what"] (spXI C "what") := by
  refine F.ok sc_BadTies_init (fun vs H Q E h => ?_) (fun cdv A outer s H vs Q E hr h => ?_)
  · obtain ⟨x, s, rfl, _⟩ := h
    rfl
  · obtain ⟨a, v, rfl, ha, k⟩ := h
    refine ⟨_, pss_one (ps_ost (pv 0) (pv 1)), ?_⟩
    exact ⟨_, rfl, _, rfl, a, C, rfl, o, no, .inl ⟨ha, k⟩⟩
theorem ok_NoTie_init {f C : Addr} {fd : FuncData} (F : Fun K "__init__" "NoTie.__init__" s_NoTie_init f fd) (o : OexC K C) (no : PySem.W.findIn K (.ref C) "tie" = some none) : FnOk P w K mg base CX0 1 f fd ["self", "tie"] (spXI C "tie") := by
  refine F.ok sc_NoTie_init (fun vs H Q E h => ?_) (fun cdv A outer s H vs Q E hr h => ?_)
  · obtain ⟨x, s, rfl, _⟩ := h
    rfl
  · obtain ⟨a, v, rfl, ha, k⟩ := h
    refine ⟨_, pss_one (ps_ost (pv 0) (pv 1)), ?_⟩
    exact ⟨_, rfl, _, rfl, a, C, rfl, o, no, .inl ⟨ha, k⟩⟩
end
/-! ### Ties -/
theorem bm_ : ¬ (("backs" : Str) = "many") := by decide +kernel
theorem mb_ : ¬ (("many" : Str) = "backs") := by decide +kernel
def tf (t : Addr) (n : Int) : List (Str × V) := putF "many" (.int n) (putF "backs" (.ref t) [])
theorem tf_backs (t : Addr) (n : Int) : (tf t n).lookup ("backs" : Str) = some (.ref t) := by
  unfold tf
  rw [lookup_putF, if_neg bm_, lookup_putF, if_pos rfl]
theorem tf_many (t : Addr) (n : Int) : (tf t n).lookup ("many" : Str) = some (.int n) := by
  unfold tf
  rw [lookup_putF, if_pos rfl]
theorem tf_no (t : Addr) (n : Int) {m : Str} (h1 : ¬ m = "many") (h2 : ¬ m = "backs") : (tf t n).lookup m = none := by
  unfold tf
  rw [lookup_putF, if_neg h1, lookup_putF, if_neg h2]
  all_goals rfl
def TiesAt (C : Addr) (H : Hp) (x : Addr) (ns : List Int) : Prop := ∃ dx t, H x = some (.ins C dx (tf t (ns.length : Nat))) ∧ H t = some (.tup (ns.map V.int))
theorem TiesAt.keep {C : Addr} {H H' : Hp} {x : Addr} {ns : List Int} (h : TiesAt C H x ns) (S : Same H H') : TiesAt C H' x ns := by
  obtain ⟨dx, t, a, b⟩ := h
  exact ⟨dx, t, S _ _ a, S _ _ b⟩
/-- the class Ties in the written part -/
structure TiC (K : PySem.W.Frag) (C : Addr) : Prop where
  cl : Cls K C
  nB : NoAttr K C "backs"
  nM : NoAttr K C "many"
structure Mt (P : Program) (w : World) (K : PySem.W.Frag) (mg : Str → Option Value) (base : Heap) (CX : CXT) (k : Nat) (C : Addr) (m : Str) (f : Addr) (fd : FuncData) (ps : List Str) (sp : Sp) : Prop where
  M : Meth K C m f
  F : FnOk P w K mg base CX k f fd ps sp
  b : Binds K fd ps []
abbrev s_Ties_has : Stmt := inClass (top 14) 2
abbrev s_Ties_back : Stmt := inClass (top 14) 3
theorem sc_Ties_has : FnScope ["self", "thing"] ["self", "thing"] (defScope s_Ties_has) := ⟨rfl, rfl, rfl, by decide +kernel, rfl, by decide +kernel, by decide +kernel⟩
theorem sc_Ties_back : FnScope ["self", "tie"] ["self", "tie"] (defScope s_Ties_back) := ⟨rfl, rfl, rfl, by decide +kernel, rfl, by decide +kernel, by decide +kernel⟩
def tieB (ns : List Int) (x : V) : Bool := wholeB x 0 ((ns.length : Nat) - 1)
def spHas (C : Addr) : Sp := fun vs H Q _ => ∃ (x : Addr) (ns : List Int) (v : V) (s : Sh), vs = [.ref x, v] ∧ TiesAt C H x ns ∧ Is H v s ∧ Q (.bl (tieB ns v)) H
def spBack (C CN : Addr) : Sp := fun vs H Q E => ∃ (x : Addr) (ns : List Int) (v : V) (s : Sh), vs = [.ref x, v] ∧ TiesAt C H x ns ∧ Is H v s ∧ (∀ (i : Nat) (b : Int), v = .int (i : Nat) → ns[i]? = some b → Q (.int b) H) ∧ (tieB ns v = false → Tells H CN "tie" v E)
def spOneWay (C CN : Addr) : Sp := fun vs H Q E => ∃ (x : Addr) (ns : List Int) (v : V) (s : Sh), vs = [.ref x, v] ∧ TiesAt C H x ns ∧ Is H v s ∧ (∀ (i : Nat) (b : Int), v = .int (i : Nat) → ns[i]? = some b → Q (.bl (!decide (b = (i : Nat)))) H) ∧ (tieB ns v = false → Tells H CN "tie" v E)
theorem tieB_true {ns : List Int} {v : V} (h : tieB ns v = true) : ∃ (i : Nat) (b : Int), v = .int (i : Nat) ∧ ns[i]? = some b := by
  cases v with
  | int i =>
    have h' : (decide (0 ≤ i) && decide (i ≤ (ns.length : Nat) - 1)) = true := h
    obtain ⟨h1, h2⟩ := Bool.and_eq_true_iff.mp h'
    have h1 := of_decide_eq_true h1
    have h2 := of_decide_eq_true h2
    have hl : i.toNat < ns.length := by omega
    exact ⟨i.toNat, ns[i.toNat], by rw [Int.toNat_of_nonneg h1], List.getElem?_eq_getElem hl⟩
  | _ => cases h
section
variable {P : Program} {w : World} {K : PySem.W.Frag} {mg : Str → Option Value} {base : Heap}
theorem ok_Ties_has {f C fW : Addr} {fd fdW : FuncData} (F : Fun K "has" "Ties.has" s_Ties_has f fd) (T : TiC K C) (GW : Cal P w K mg base CX0 1 "is_whole" fW fdW ["thing", "low", "high"] spWhole) : FnOk P w K mg base CX0 2 f fd ["self", "thing"] (spHas C) := by
  refine F.ok sc_Ties_has (fun vs H Q E h => ?_) (fun cdv A outer s H vs Q E hr h => ?_)
  · obtain ⟨x, ns, v, s, rfl, _⟩ := h
    rfl
  · obtain ⟨x, ns, v, s, rfl, ⟨dx, t, hx, ht⟩, hv, k⟩ := h
    refine ⟨_, (pss_one 
  (ps_ret (pcal GW hr pass0 (pa_cons (pv 1) (pa_cons pe_int (pa_cons (pe_op op_sub (pe_fld (pv 0) rfl) pe_int) pa_nil)))))), ?_⟩
    exact ⟨_, rfl, _, rfl, x, C, dx, _, _, rfl, hx, T.cl, T.nM, tf_many _ _, _, _, rfl, rfl, v, s, _, _, rfl, hv, k⟩
theorem ok_Ties_back {f C CN fH fI : Addr} {fd fdH fdI : FuncData} (F : Fun K "back" "Ties.back" s_Ties_back f fd) (T : TiC K C) (GH : Mt P w K mg base CX0 2 C "has" fH fdH ["self", "thing"] (spHas C)) (GN : Ex P w K mg base "NoTie" "tie" CN fI fdI ["self", "tie"]) :
    FnOk P w K mg base (L2.CX P w) 3 f fd ["self", "tie"] (spBack C CN) := by
  refine F.okX sc_Ties_back (fun vs H Q E h => ?_) (fun cdv A outer s H vs Q E hr h => ?_)
  · obtain ⟨x, ns, v, s, rfl, _⟩ := h
    rfl
  · obtain ⟨x, ns, v, s, rfl, hT, hv, k1, k2⟩ := h
    obtain ⟨dx, t, hx, ht⟩ := id hT
    refine ⟨_, (pss_cons 
  (ps_if (pt_not (pt_val (pe_meth (pv 0) T.cl GH.M GH.F hr GH.b .nil pass0 (pa_cons (pv 1) pa_nil)))) (pss_one 
    (ps_raise rfl (takes_of rfl rfl rfl rfl) (pmk_oex GN.o GN.i GN.t GN.F hr GN.b .nil pass0 rfl GN.m (pa_cons (pv 1) pa_nil)))) pss_nil) (pss_one 
  (ps_ret (pe_ix ix_tup (pe_fld (pv 0) rfl) (pv 1) (fun _ _ => rfl))))), ?_⟩
    refine ⟨_, rfl, x, dx, _, rfl, hx, tf_no _ _ (by decide +kernel) (by decide +kernel), _, rfl, x, ns, v, s, rfl, hT, hv, _, rfl, ?_⟩
    cases e : tieB ns v with
    | true =>
      obtain ⟨i, b, rfl, hb⟩ := tieB_true e
      refine if_fa rfl ⟨_, rfl, x, C, dx, _, _, rfl, hx, T.cl, T.nB, tf_backs _ _, _, rfl, _, _, _, _, rfl, rfl, SqT.of ht, at_of (v := .int b) rfl ?_, k1 i b rfl hb⟩
      rw [List.getElem?_map, hb]
      rfl
    | false => exact if_tr rfl ⟨_, rfl, mkO_of (k2 e)⟩
end
end J

set_option Elab.async false
set_option linter.all false
set_option maxRecDepth 100000
set_option maxHeartbeats 4000000
namespace J
open PySem PySem.Spec PyProof.Rows L2
/-! ### which word is due -/
def backB (xs : List V) (k : Nat) : Bool := match xs[k]? with
  | some (.int n) => decide (xs[n.toNat]? = some (.int (k : Nat)))
  | _ => false
def dueS (xs : List V) : Option Str :=
  if 2 ≤ xs.length ∧ xs.length ≤ 4 then
    if ∀ x ∈ xs, wholeB x 0 ((xs.length : Nat) - 1) = true then
      if ∀ k, k < xs.length → backB xs k = true then none else some "back"
    else some "tie"
  else some "count"
def due : Sh → Option Str
  | .lst xs => dueS xs
  | .tup xs => dueS xs
  | _ => some "row"
def items : Sh → List V
  | .lst xs => xs
  | .tup xs => xs
  | _ => []
def Known (H : Hp) (xs : List V) : Prop := ∀ x ∈ xs, ∃ s, Is H x s
theorem Known.keep {H H' : Hp} {xs : List V} (h : Known H xs) (S : Same H H') : Known H' xs := fun x hx => by
  obtain ⟨s, q⟩ := h x hx
  exact ⟨s, q.keep S⟩
/-- what stands behind a due of none -/
structure GoodB (ns : List Int) : Prop where
  lo : 2 ≤ ns.length
  hi : ns.length ≤ 4
  rng : ∀ n ∈ ns, 0 ≤ n ∧ n < (ns.length : Nat)
  inv : ∀ (k : Nat) (b : Int), ns[k]? = some b → ns[b.toNat]? = some (k : Int)
theorem whole_int {x : V} {hi : Int} (h : wholeB x 0 hi = true) : ∃ n : Int, x = .int n ∧ 0 ≤ n ∧ n ≤ hi := by
  cases x with
  | int i =>
    have h' : (decide (0 ≤ i) && decide (i ≤ hi)) = true := h
    obtain ⟨h1, h2⟩ := Bool.and_eq_true_iff.mp h'
    exact ⟨i, rfl, of_decide_eq_true h1, of_decide_eq_true h2⟩
  | _ => cases h
theorem whole_of {n hi : Int} (h : 0 ≤ n) (h2 : n ≤ hi) : wholeB (.int n) 0 hi = true := by
  show (decide (0 ≤ n) && decide (n ≤ hi)) = true
  rw [decide_eq_true h, decide_eq_true h2]
  rfl
theorem all_ints {hi : Int} : ∀ {xs : List V}, (∀ x ∈ xs, wholeB x 0 hi = true) → ∃ ns : List Int, xs = ns.map V.int ∧ ∀ n ∈ ns, 0 ≤ n ∧ n ≤ hi
  | [], _ => ⟨[], rfl, fun n h => by cases h⟩
  | x :: xs, h => by
    obtain ⟨n, rfl, h1, h2⟩ := whole_int (h x List.mem_cons_self)
    obtain ⟨ns, rfl, q⟩ := all_ints (xs := xs) fun y hy => h y (List.mem_cons_of_mem _ hy)
    refine ⟨n :: ns, rfl, fun m hm => ?_⟩
    rcases List.mem_cons.mp hm with rfl | hm
    · exact ⟨h1, h2⟩
    · exact q m hm
theorem ints_at {ns : List Int} {k : Nat} {b : Int} (h : ns[k]? = some b) : (ns.map V.int)[k]? = some (V.int b) := by
  rw [List.getElem?_map, h]
  rfl
theorem backB_iff {ns : List Int} {k : Nat} {b : Int} (h : ns[k]? = some b) : backB (ns.map V.int) k = decide (ns[b.toNat]? = some (k : Int)) := by
  unfold backB
  rw [ints_at h]
  show decide ((ns.map V.int)[b.toNat]? = some (V.int (k : Nat))) = _
  rw [List.getElem?_map]
  cases e : ns[b.toNat]? with
  | none => simp
  | some c => simp
theorem good_of {xs : List V} (h : dueS xs = none) : ∃ ns : List Int, xs = ns.map V.int ∧ GoodB ns := by
  unfold dueS at h
  split at h
  · rename_i h1
    split at h
    · rename_i h2
      split at h
      · rename_i h3
        obtain ⟨ns, rfl, q⟩ := all_ints h2
        rw [List.length_map] at h1 h3 q
        refine ⟨ns, rfl, h1.1, h1.2, fun n hn => ⟨(q n hn).1, by have := (q n hn).2; omega⟩, fun k b hb => ?_⟩
        have hk := (List.getElem?_eq_some_iff.mp hb).1
        have z := h3 k hk
        rw [backB_iff hb] at z
        exact of_decide_eq_true z
      · cases h
    · cases h
  · cases h
theorem due_of {ns : List Int} (g : GoodB ns) : dueS (ns.map V.int) = none := by
  unfold dueS
  rw [List.length_map, if_pos ⟨g.lo, g.hi⟩, if_pos, if_pos]
  · intro k hk
    obtain ⟨b, hb⟩ : ∃ b, ns[k]? = some b := ⟨ns[k], List.getElem?_eq_getElem hk⟩
    rw [backB_iff hb]
    exact decide_eq_true (g.inv k b hb)
  · intro x hx
    obtain ⟨n, hn, rfl⟩ := List.mem_map.mp hx
    have := g.rng n hn
    exact whole_of this.1 (by omega)
theorem Tells.mono {H H1 : Hp} {C : Addr} {f : Str} {v : V} {E : XK} (h : Tells H C f v E) (S : Same H H1) : Tells H1 C f v E := fun d H' n S1 e => h d H' (S.free n) (S.trans S1) e
theorem fault_count {xs : List V} (h : ¬ (2 ≤ xs.length ∧ xs.length ≤ 4)) : dueS xs = some ("count" : Str) := by
  unfold dueS
  rw [if_neg h]
theorem fault_tie {xs : List V} {x : V} (h : 2 ≤ xs.length ∧ xs.length ≤ 4) (hx : x ∈ xs) (e : wholeB x 0 ((xs.length : Nat) - 1) = false) : dueS xs = some ("tie" : Str) := by
  unfold dueS
  rw [if_pos h, if_neg]
  intro q
  rw [q x hx] at e
  cases e
theorem fault_back {xs : List V} {k : Nat} (h : 2 ≤ xs.length ∧ xs.length ≤ 4) (ha : ∀ x ∈ xs, wholeB x 0 ((xs.length : Nat) - 1) = true) (hk : k < xs.length) (e : backB xs k = false) : dueS xs = some ("back" : Str) := by
  unfold dueS
  rw [if_pos h, if_pos ha, if_neg]
  intro q
  rw [q k hk] at e
  cases e
theorem fault_none {xs : List V} (h : 2 ≤ xs.length ∧ xs.length ≤ 4) (ha : ∀ x ∈ xs, wholeB x 0 ((xs.length : Nat) - 1) = true) (e : ∀ k, k < xs.length → backB xs k = true) : dueS xs = none := by
  unfold dueS
  rw [if_pos h, if_pos ha, if_pos e]
def faultV : Option Str → V
  | none => .non
  | some w => .str w
abbrev s_ties_fault : Stmt := top 15
theorem sc_ties_fault : FnScope ["backs", "many", "back", "tie"] ["backs"] (defScope s_ties_fault) := ⟨rfl, rfl, rfl, by decide +kernel, rfl, by decide +kernel, by decide +kernel⟩
def spFault : Sp := fun vs H Q _ => ∃ (v : V) (s : Sh), vs = [v] ∧ Is H v s ∧ Known H (items s) ∧ ∀ H', Same H H' → Q (faultV (due s)) H'
abbrev s_Ties_init : Stmt := inClass (top 14) 0
theorem sc_Ties_init : FnScope ["self", "backs", "what"] ["self", "backs"] (defScope s_Ties_init) := ⟨rfl, rfl, rfl, by decide +kernel, rfl, by decide +kernel, by decide +kernel⟩
def spTies (C CB : Addr) : Sp := fun vs H Q E => ∃ (x dx : Addr) (v : V) (s : Sh), vs = [.ref x, v] ∧ H x = some (.ins C dx []) ∧ Is H v s ∧ Known H (items s) ∧ (∀ w, due s = some w → Tells H CB "what" (.str w) E) ∧
  (∀ ns, due s = none → items s = ns.map V.int → ∀ H', But x H H' → TiesAt C H' x ns → Q .non H')
section
variable {P : Program} {w : World} {K : PySem.W.Frag} {mg : Str → Option Value} {base : Heap}
theorem ok_ties_fault {f fS fW : Addr} {fd fdS fdW : FuncData} (F : Fun K "ties_fault" "ties_fault" s_ties_fault f fd) (nl : mg "len" = none) (nr : mg "range" = none) (na : mg "all" = none) (mM : ∃ t, mg "MOST_TIES" = some (.int 4 t))
    (GS : Cal P w K mg base CX0 1 "is_sequence" fS fdS ["thing"] spSeq) (GW : Cal P w K mg base CX0 1 "is_whole" fW fdW ["thing", "low", "high"] spWhole) : FnOk P w K mg base CX0 2 f fd ["backs"] spFault := by
  obtain ⟨tM, mM⟩ := mM
  refine F.ok sc_ties_fault (fun vs H Q E h => ?_) (fun cdv A outer s H vs Q E hr h => ?_)
  · obtain ⟨v, s, rfl, _⟩ := h
    rfl
  · obtain ⟨v, sh, rfl, hv, kn, k⟩ := h
    cases sh with
    | sc u =>
      refine ⟨_, (pss_cons 
  (ps_if (pt_not (pt_val (pcal GS hr pass0 (pa_cons (pv 0) pa_nil)))) (pss_one 
    (ps_ret pe_str)) pss_nil) (pss_cons 
  (ps_set (i := 1) sc_ties_fault.nd rfl (Or.inr rfl) (pe_callB call_len_seq (by rfl) nl PySem.boot_len (pa_cons (pv 0) pa_nil))) (pss_cons 
  (ps_if (pt_not (pt_chain op_le op_le pe_int (pv 1) (pe_glob (v := .int 4) rfl mM ⟨_, rfl⟩))) (pss_one 
    (ps_ret pe_str)) pss_nil) (pss_cons 
  (ps_if (pt_not (pt_val (pe_callB (cr_all rfl) (by rfl) na (by decide +kernel) (pa_cons (pe_lc (own := [("back", 2)]) (g := gName 2) (by rfl) sc_ties_fault.nd (pi_list (pv 0)) (blkOk_by (own := [("back", 2)]) (N := ["backs", "many", "back", "tie"]) (sc := defScope s_ties_fault) (by decide +kernel)) (fun _ _ _ _ _ => pg_name (i := 2) sc_ties_fault.nd rfl (Or.inl rfl)) (fun _ _ _ _ _ => pts_nil) (fun _ _ _ _ _ => (pcal GW hr pass0 (pa_cons (pv 2) (pa_cons pe_int (pa_cons (pe_op op_sub (pv 1) pe_int) pa_nil)))))) pa_nil)))) (pss_one 
    (ps_ret pe_str)) pss_nil) (pss_cons 
  (ps_if (pt_not (pt_val (pe_callB (cr_all rfl) (by rfl) na (by decide +kernel) (pa_cons (pe_lc (own := [("tie", 3)]) (g := gName 3) (by rfl) sc_ties_fault.nd (pi_range1 (by rfl) nr (pa_cons (pv 1) pa_nil)) (blkOk_by (own := [("tie", 3)]) (N := ["backs", "many", "back", "tie"]) (sc := defScope s_ties_fault) (by decide +kernel)) (fun _ _ _ _ _ => pg_name (i := 3) sc_ties_fault.nd rfl (Or.inl rfl)) (fun _ _ _ _ _ => pts_nil) (fun _ _ _ _ _ => (pe_cmpR op_eq (pe_ix (r := rIxL K) ix_list (pv 0) (pe_ix (r := rIxL K) ix_list (pv 0) (pv 3) (fun _ _ => rfl)) (fun _ _ => rfl)) (pv 3) (nomark _)))) pa_nil)))) (pss_one 
    (ps_ret pe_str)) pss_nil) (pss_one 
  (ps_ret pe_non))))))), ?_⟩
      exact ⟨_, rfl, _, (.sc u), rfl, hv, fun H1 S1 => ⟨_, rfl, iteT (k _ S1)⟩⟩
    | dk =>
      refine ⟨_, (pss_cons 
  (ps_if (pt_not (pt_val (pcal GS hr pass0 (pa_cons (pv 0) pa_nil)))) (pss_one 
    (ps_ret pe_str)) pss_nil) (pss_cons 
  (ps_set (i := 1) sc_ties_fault.nd rfl (Or.inr rfl) (pe_callB call_len_seq (by rfl) nl PySem.boot_len (pa_cons (pv 0) pa_nil))) (pss_cons 
  (ps_if (pt_not (pt_chain op_le op_le pe_int (pv 1) (pe_glob (v := .int 4) rfl mM ⟨_, rfl⟩))) (pss_one 
    (ps_ret pe_str)) pss_nil) (pss_cons 
  (ps_if (pt_not (pt_val (pe_callB (cr_all rfl) (by rfl) na (by decide +kernel) (pa_cons (pe_lc (own := [("back", 2)]) (g := gName 2) (by rfl) sc_ties_fault.nd (pi_list (pv 0)) (blkOk_by (own := [("back", 2)]) (N := ["backs", "many", "back", "tie"]) (sc := defScope s_ties_fault) (by decide +kernel)) (fun _ _ _ _ _ => pg_name (i := 2) sc_ties_fault.nd rfl (Or.inl rfl)) (fun _ _ _ _ _ => pts_nil) (fun _ _ _ _ _ => (pcal GW hr pass0 (pa_cons (pv 2) (pa_cons pe_int (pa_cons (pe_op op_sub (pv 1) pe_int) pa_nil)))))) pa_nil)))) (pss_one 
    (ps_ret pe_str)) pss_nil) (pss_cons 
  (ps_if (pt_not (pt_val (pe_callB (cr_all rfl) (by rfl) na (by decide +kernel) (pa_cons (pe_lc (own := [("tie", 3)]) (g := gName 3) (by rfl) sc_ties_fault.nd (pi_range1 (by rfl) nr (pa_cons (pv 1) pa_nil)) (blkOk_by (own := [("tie", 3)]) (N := ["backs", "many", "back", "tie"]) (sc := defScope s_ties_fault) (by decide +kernel)) (fun _ _ _ _ _ => pg_name (i := 3) sc_ties_fault.nd rfl (Or.inl rfl)) (fun _ _ _ _ _ => pts_nil) (fun _ _ _ _ _ => (pe_cmpR op_eq (pe_ix (r := rIxL K) ix_list (pv 0) (pe_ix (r := rIxL K) ix_list (pv 0) (pv 3) (fun _ _ => rfl)) (fun _ _ => rfl)) (pv 3) (nomark _)))) pa_nil)))) (pss_one 
    (ps_ret pe_str)) pss_nil) (pss_one 
  (ps_ret pe_non))))))), ?_⟩
      exact ⟨_, rfl, _, .dk, rfl, hv, fun H1 S1 => ⟨_, rfl, iteT (k _ S1)⟩⟩
    | lst xs =>
      obtain ⟨p, rfl, hp⟩ := hv
      refine ⟨_, (pss_cons 
  (ps_if (pt_not (pt_val (pcal GS hr pass0 (pa_cons (pv 0) pa_nil)))) (pss_one 
    (ps_ret pe_str)) pss_nil) (pss_cons 
  (ps_set (i := 1) sc_ties_fault.nd rfl (Or.inr rfl) (pe_callB call_len_seq (by rfl) nl PySem.boot_len (pa_cons (pv 0) pa_nil))) (pss_cons 
  (ps_if (pt_not (pt_chain op_le op_le pe_int (pv 1) (pe_glob (v := .int 4) rfl mM ⟨_, rfl⟩))) (pss_one 
    (ps_ret pe_str)) pss_nil) (pss_cons 
  (ps_if (pt_not (pt_val (pe_callB (cr_all rfl) (by rfl) na (by decide +kernel) (pa_cons (pe_lc (own := [("back", 2)]) (g := gName 2) (by rfl) sc_ties_fault.nd (pi_list (pv 0)) (blkOk_by (own := [("back", 2)]) (N := ["backs", "many", "back", "tie"]) (sc := defScope s_ties_fault) (by decide +kernel)) (fun _ _ _ _ _ => pg_name (i := 2) sc_ties_fault.nd rfl (Or.inl rfl)) (fun _ _ _ _ _ => pts_nil) (fun _ _ _ _ _ => (pcal GW hr pass0 (pa_cons (pv 2) (pa_cons pe_int (pa_cons (pe_op op_sub (pv 1) pe_int) pa_nil)))))) pa_nil)))) (pss_one 
    (ps_ret pe_str)) pss_nil) (pss_cons 
  (ps_if (pt_not (pt_val (pe_callB (cr_all rfl) (by rfl) na (by decide +kernel) (pa_cons (pe_lc (own := [("tie", 3)]) (g := gName 3) (by rfl) sc_ties_fault.nd (pi_range1 (by rfl) nr (pa_cons (pv 1) pa_nil)) (blkOk_by (own := [("tie", 3)]) (N := ["backs", "many", "back", "tie"]) (sc := defScope s_ties_fault) (by decide +kernel)) (fun _ _ _ _ _ => pg_name (i := 3) sc_ties_fault.nd rfl (Or.inl rfl)) (fun _ _ _ _ _ => pts_nil) (fun _ _ _ _ _ => (pe_cmpR op_eq (pe_ix (r := rIxL K) ix_list (pv 0) (pe_ix (r := rIxL K) ix_list (pv 0) (pv 3) (fun _ _ => rfl)) (fun _ _ => rfl)) (pv 3) (nomark _)))) pa_nil)))) (pss_one 
    (ps_ret pe_str)) pss_nil) (pss_one 
  (ps_ret pe_non))))))), ?_⟩
      refine ⟨_, rfl, _, .lst xs, rfl, ⟨p, rfl, hp⟩, fun H1 S1 => ⟨_, rfl, iteF ?_⟩⟩
      have h1 := S1 _ _ hp
      have kn1 : Known H1 xs := kn.keep S1
      have say : ∀ (H2 : Hp) (o : Option Str), Same H1 H2 → dueS xs = o → Q (faultV o) H2 := fun H2 o S2 e => by
        have z := k _ (S1.trans S2)
        have e2 : due (.lst xs) = o := e
        rw [e2] at z
        exact z
      refine ⟨_, rfl, p, xs, rfl, .inl (SqL.of h1), ?_⟩
      refine ⟨_, rfl, _, _, rfl, rfl, _, rfl, ?_⟩
      by_cases c1 : (2 : Int) ≤ ((xs.length : Nat) : Int)
      case neg => exact if_fa (decide_eq_false c1) ⟨_, rfl, iteT (say _ (some "count") (Same.refl _) (fault_count (by omega)))⟩
      refine if_tr (decide_eq_true c1) ⟨_, _, rfl, rfl, _, rfl, ?_⟩
      by_cases c2 : ((xs.length : Nat) : Int) ≤ 4
      case neg =>
        rw [decide_eq_false c2]
        exact iteT (say _ (some "count") (Same.refl _) (fault_count (by omega)))
      rw [decide_eq_true c2]
      refine iteF ?_
      have c12 : 2 ≤ xs.length ∧ xs.length ≤ 4 := by omega
      refine ⟨_, rfl, p, rfl, ⟨_, SqL.of h1⟩, fun D hD => ?_⟩
      refine lc_list (K := K) (a := p) (xs := xs) (fun i H2 => Same H1 H2 ∧ H1 D = none ∧ H2 D = some (.lst ((xs.take i).map fun y => V.bl (wholeB y 0 ((xs.length : Nat) - 1))))) ⟨new_same hD, hD, upd_same⟩ (fun i H2 _ ⟨S, _⟩ => SqL.of (S _ _ h1)) ?_ ?_
      · rintro i y H2 hy ⟨S2, D0, eD⟩
        have hi := (List.getElem?_eq_some_iff.mp hy).1
        obtain ⟨sy, isy⟩ := kn1 y (List.mem_of_getElem? hy)
        refine ⟨rfl, yesT ?_⟩
        refine ⟨_, rfl, _, rfl, _, _, rfl, rfl, y, sy, _, _, rfl, isy.keep S2, _, eD, small1000 (by rw [List.length_map, List.length_take]; omega), fun b o e => ?_, D0, by rw [upd_same, List.take_add_one, hy, List.map_append]; rfl⟩
        rw [upd_ne (ne_of_none e D0)]
        exact S2 _ _ e
      rintro H2 ⟨S2, D0, eD⟩
      rw [List.take_length] at eD
      refine ⟨D, xs.map fun y => wholeB y 0 ((xs.length : Nat) - 1), rfl, SqL.of (by rw [eD, List.map_map]; rfl), _, rfl, ?_⟩
      cases ea : (xs.map fun y => wholeB y 0 ((xs.length : Nat) - 1)).all id with
      | false =>
        refine iteT (say _ (some "tie") S2 ?_)
        rw [List.all_map, List.all_eq_false] at ea
        obtain ⟨x, hx, hw⟩ := ea
        exact fault_tie c12 hx (by simpa using hw)
      | true =>
        refine iteF ?_
        rw [List.all_map, List.all_eq_true] at ea
        have hall : ∀ x ∈ xs, wholeB x 0 ((xs.length : Nat) - 1) = true := fun x hx => ea x hx
        obtain ⟨ns, hns, hr2⟩ := all_ints hall
        have hln : xs.length = ns.length := by rw [hns, List.length_map]
        refine ⟨_, rfl, (xs.length : Nat), rfl, by omega, by omega, fun E' hE => ?_⟩
        refine lc_range (lo := 0) (n := xs.length) (fun i H3 => Same H2 H3 ∧ H2 E' = none ∧ H3 E' = some (.lst ((List.range i).map fun j => V.bl (backB xs j)))) ⟨new_same hE, hE, upd_same⟩ ?_ ?_
        · rintro i H3 hi ⟨S3, E0, eE⟩
          have h3 := S3 _ _ (S2 _ _ h1)
          have hi' : i < ns.length := by omega
          have hbi : ns[i]? = some ns[i] := List.getElem?_eq_getElem hi'
          have hmem := hr2 _ (List.getElem_mem hi')
          generalize ns[i] = b at hbi hmem
          have hbl : b.toNat < ns.length := by omega
          have hci : ns[b.toNat]? = some ns[b.toNat] := List.getElem?_eq_getElem hbl
          generalize ns[b.toNat] = c at hci
          have hbk := backB_iff hbi
          rw [← hns, hci] at hbk
          have val : decide (V.int c = V.int (0 + (i : Nat))) = backB xs i := by
            rw [hbk]
            by_cases z : c = (i : Int) <;> simp [z]
          refine ⟨rfl, yesT ?_⟩
          refine ⟨_, rfl, _, rfl, _, rfl, _, _, _, _, rfl, rfl, SqL.of h3, at_of (j := i) (v := .int b) (by omega) (by rw [hns]; exact ints_at hbi), _, _, _, _, rfl, rfl, SqL.of h3, at_of (j := b.toNat) (v := .int c) (by omega) (by rw [hns]; exact ints_at hci), _, rfl, rfl, _, eE, small1000 (by rw [List.length_map, List.length_range]; omega), fun b' o e => ?_, E0, ?_⟩
          · rw [upd_ne (ne_of_none e E0)]
            exact S3 _ _ e
          · rw [upd_same, val, List.range_succ, List.map_append]
            rfl
        rintro H3 ⟨S3, E0, eE⟩
        refine ⟨E', (List.range xs.length).map (backB xs), rfl, SqL.of (by rw [eE, List.map_map]; rfl), _, rfl, ?_⟩
        cases eb : ((List.range xs.length).map (backB xs)).all id with
        | false =>
          refine iteT (say _ (some "back") (S2.trans S3) ?_)
          rw [List.all_map, List.all_eq_false] at eb
          obtain ⟨j, hj, hw⟩ := eb
          exact fault_back c12 hall (List.mem_range.mp hj) (by simpa using hw)
        | true =>
          refine iteF (say _ none (S2.trans S3) ?_)
          rw [List.all_map, List.all_eq_true] at eb
          exact fault_none c12 hall fun j hj => eb j (List.mem_range.mpr hj)
    | tup xs =>
      obtain ⟨p, rfl, hp⟩ := hv
      refine ⟨_, (pss_cons 
  (ps_if (pt_not (pt_val (pcal GS hr pass0 (pa_cons (pv 0) pa_nil)))) (pss_one 
    (ps_ret pe_str)) pss_nil) (pss_cons 
  (ps_set (i := 1) sc_ties_fault.nd rfl (Or.inr rfl) (pe_callB call_len_seq (by rfl) nl PySem.boot_len (pa_cons (pv 0) pa_nil))) (pss_cons 
  (ps_if (pt_not (pt_chain op_le op_le pe_int (pv 1) (pe_glob (v := .int 4) rfl mM ⟨_, rfl⟩))) (pss_one 
    (ps_ret pe_str)) pss_nil) (pss_cons 
  (ps_if (pt_not (pt_val (pe_callB (cr_all rfl) (by rfl) na (by decide +kernel) (pa_cons (pe_lc (own := [("back", 2)]) (g := gName 2) (by rfl) sc_ties_fault.nd (pi_tup (pv 0)) (blkOk_by (own := [("back", 2)]) (N := ["backs", "many", "back", "tie"]) (sc := defScope s_ties_fault) (by decide +kernel)) (fun _ _ _ _ _ => pg_name (i := 2) sc_ties_fault.nd rfl (Or.inl rfl)) (fun _ _ _ _ _ => pts_nil) (fun _ _ _ _ _ => (pcal GW hr pass0 (pa_cons (pv 2) (pa_cons pe_int (pa_cons (pe_op op_sub (pv 1) pe_int) pa_nil)))))) pa_nil)))) (pss_one 
    (ps_ret pe_str)) pss_nil) (pss_cons 
  (ps_if (pt_not (pt_val (pe_callB (cr_all rfl) (by rfl) na (by decide +kernel) (pa_cons (pe_lc (own := [("tie", 3)]) (g := gName 3) (by rfl) sc_ties_fault.nd (pi_range1 (by rfl) nr (pa_cons (pv 1) pa_nil)) (blkOk_by (own := [("tie", 3)]) (N := ["backs", "many", "back", "tie"]) (sc := defScope s_ties_fault) (by decide +kernel)) (fun _ _ _ _ _ => pg_name (i := 3) sc_ties_fault.nd rfl (Or.inl rfl)) (fun _ _ _ _ _ => pts_nil) (fun _ _ _ _ _ => (pe_cmpR op_eq (pe_ix (r := rIxT K) ix_tup (pv 0) (pe_ix (r := rIxT K) ix_tup (pv 0) (pv 3) (fun _ _ => rfl)) (fun _ _ => rfl)) (pv 3) (nomark _)))) pa_nil)))) (pss_one 
    (ps_ret pe_str)) pss_nil) (pss_one 
  (ps_ret pe_non))))))), ?_⟩
      refine ⟨_, rfl, _, .tup xs, rfl, ⟨p, rfl, hp⟩, fun H1 S1 => ⟨_, rfl, iteF ?_⟩⟩
      have h1 := S1 _ _ hp
      have kn1 : Known H1 xs := kn.keep S1
      have say : ∀ (H2 : Hp) (o : Option Str), Same H1 H2 → dueS xs = o → Q (faultV o) H2 := fun H2 o S2 e => by
        have z := k _ (S1.trans S2)
        have e2 : due (.tup xs) = o := e
        rw [e2] at z
        exact z
      refine ⟨_, rfl, p, xs, rfl, .inr (SqT.of h1), ?_⟩
      refine ⟨_, rfl, _, _, rfl, rfl, _, rfl, ?_⟩
      by_cases c1 : (2 : Int) ≤ ((xs.length : Nat) : Int)
      case neg => exact if_fa (decide_eq_false c1) ⟨_, rfl, iteT (say _ (some "count") (Same.refl _) (fault_count (by omega)))⟩
      refine if_tr (decide_eq_true c1) ⟨_, _, rfl, rfl, _, rfl, ?_⟩
      by_cases c2 : ((xs.length : Nat) : Int) ≤ 4
      case neg =>
        rw [decide_eq_false c2]
        exact iteT (say _ (some "count") (Same.refl _) (fault_count (by omega)))
      rw [decide_eq_true c2]
      refine iteF ?_
      have c12 : 2 ≤ xs.length ∧ xs.length ≤ 4 := by omega
      refine ⟨_, rfl, p, rfl, ⟨_, SqT.of h1⟩, fun D hD => ?_⟩
      refine lc_tup (K := K) (a := p) (xs := xs) (fun i H2 => Same H1 H2 ∧ H1 D = none ∧ H2 D = some (.lst ((xs.take i).map fun y => V.bl (wholeB y 0 ((xs.length : Nat) - 1))))) ⟨new_same hD, hD, upd_same⟩ (fun i H2 _ ⟨S, _⟩ => SqT.of (S _ _ h1)) ?_ ?_
      · rintro i y H2 hy ⟨S2, D0, eD⟩
        have hi := (List.getElem?_eq_some_iff.mp hy).1
        obtain ⟨sy, isy⟩ := kn1 y (List.mem_of_getElem? hy)
        refine ⟨rfl, yesT ?_⟩
        refine ⟨_, rfl, _, rfl, _, _, rfl, rfl, y, sy, _, _, rfl, isy.keep S2, _, eD, small1000 (by rw [List.length_map, List.length_take]; omega), fun b o e => ?_, D0, by rw [upd_same, List.take_add_one, hy, List.map_append]; rfl⟩
        rw [upd_ne (ne_of_none e D0)]
        exact S2 _ _ e
      rintro H2 ⟨S2, D0, eD⟩
      rw [List.take_length] at eD
      refine ⟨D, xs.map fun y => wholeB y 0 ((xs.length : Nat) - 1), rfl, SqL.of (by rw [eD, List.map_map]; rfl), _, rfl, ?_⟩
      cases ea : (xs.map fun y => wholeB y 0 ((xs.length : Nat) - 1)).all id with
      | false =>
        refine iteT (say _ (some "tie") S2 ?_)
        rw [List.all_map, List.all_eq_false] at ea
        obtain ⟨x, hx, hw⟩ := ea
        exact fault_tie c12 hx (by simpa using hw)
      | true =>
        refine iteF ?_
        rw [List.all_map, List.all_eq_true] at ea
        have hall : ∀ x ∈ xs, wholeB x 0 ((xs.length : Nat) - 1) = true := fun x hx => ea x hx
        obtain ⟨ns, hns, hr2⟩ := all_ints hall
        have hln : xs.length = ns.length := by rw [hns, List.length_map]
        refine ⟨_, rfl, (xs.length : Nat), rfl, by omega, by omega, fun E' hE => ?_⟩
        refine lc_range (lo := 0) (n := xs.length) (fun i H3 => Same H2 H3 ∧ H2 E' = none ∧ H3 E' = some (.lst ((List.range i).map fun j => V.bl (backB xs j)))) ⟨new_same hE, hE, upd_same⟩ ?_ ?_
        · rintro i H3 hi ⟨S3, E0, eE⟩
          have h3 := S3 _ _ (S2 _ _ h1)
          have hi' : i < ns.length := by omega
          have hbi : ns[i]? = some ns[i] := List.getElem?_eq_getElem hi'
          have hmem := hr2 _ (List.getElem_mem hi')
          generalize ns[i] = b at hbi hmem
          have hbl : b.toNat < ns.length := by omega
          have hci : ns[b.toNat]? = some ns[b.toNat] := List.getElem?_eq_getElem hbl
          generalize ns[b.toNat] = c at hci
          have hbk := backB_iff hbi
          rw [← hns, hci] at hbk
          have val : decide (V.int c = V.int (0 + (i : Nat))) = backB xs i := by
            rw [hbk]
            by_cases z : c = (i : Int) <;> simp [z]
          refine ⟨rfl, yesT ?_⟩
          refine ⟨_, rfl, _, rfl, _, rfl, _, _, _, _, rfl, rfl, SqT.of h3, at_of (j := i) (v := .int b) (by omega) (by rw [hns]; exact ints_at hbi), _, _, _, _, rfl, rfl, SqT.of h3, at_of (j := b.toNat) (v := .int c) (by omega) (by rw [hns]; exact ints_at hci), _, rfl, rfl, _, eE, small1000 (by rw [List.length_map, List.length_range]; omega), fun b' o e => ?_, E0, ?_⟩
          · rw [upd_ne (ne_of_none e E0)]
            exact S3 _ _ e
          · rw [upd_same, val, List.range_succ, List.map_append]
            rfl
        rintro H3 ⟨S3, E0, eE⟩
        refine ⟨E', (List.range xs.length).map (backB xs), rfl, SqL.of (by rw [eE, List.map_map]; rfl), _, rfl, ?_⟩
        cases eb : ((List.range xs.length).map (backB xs)).all id with
        | false =>
          refine iteT (say _ (some "back") (S2.trans S3) ?_)
          rw [List.all_map, List.all_eq_false] at eb
          obtain ⟨j, hj, hw⟩ := eb
          exact fault_back c12 hall (List.mem_range.mp hj) (by simpa using hw)
        | true =>
          refine iteF (say _ none (S2.trans S3) ?_)
          rw [List.all_map, List.all_eq_true] at eb
          exact fault_none c12 hall fun j hj => eb j (List.mem_range.mpr hj)
theorem ok_Ties_init {f C CB fC fI : Addr} {fd fdC fdI : FuncData} (F : Fun K "__init__" "Ties.__init__" s_Ties_init f fd) (T : TiC K C) (nl : mg "len" = none) (nt : mg "tuple" = none)
    (GF : Cal P w K mg base CX0 2 "ties_fault" fC fdC ["backs"] spFault) (GB : Ex P w K mg base "BadTies" "what" CB fI fdI ["self", "what"]) : FnOk P w K mg base (L2.CX P w) 4 f fd ["self", "backs"] (spTies C CB) := by
  refine F.okX sc_Ties_init (fun vs H Q E h => ?_) (fun cdv A outer s H vs Q E hr h => ?_)
  · obtain ⟨x, dx, v, s, rfl, _⟩ := h
    rfl
  · obtain ⟨x, dx, v, sh, rfl, hx, hv, kn, k1, k2⟩ := h
    refine ⟨_, (pss_cons 
  (ps_set (i := 2) sc_Ties_init.nd rfl (Or.inl rfl) (pcal GF hr pass0 (pa_cons (pv 1) pa_nil))) (pss_cons 
  (ps_if (pt_cmpR op_notN (pv 2) pe_non (nomark _)) (pss_one 
    (ps_raise rfl (takes_of rfl rfl rfl rfl) (pmk_oex GB.o GB.i GB.t GB.F (hr.mono (by decide)) GB.b .nil pass0 rfl GB.m (pa_cons (pv 2) pa_nil)))) pss_nil) (pss_cons 
  (ps_fld (pv 0) (pe_callTy (T := "tuple") (r := fun xs H Q => ∃ p ys, xs = [.ref p] ∧ ((SqL K H p ys ∧ ∀ l, H l = none → Q (.ref l) (upd H l (.tup ys))) ∨ (SqT K H p ys ∧ Q (.ref p) H))) call_tuple_of (by rfl) nt (by decide +kernel) (pa_cons (pv 1) pa_nil)) rfl) (pss_one 
  (ps_fld (pv 0) (pe_callB call_len_seq (by rfl) nl PySem.boot_len (pa_cons (pe_fld (pv 0) rfl) pa_nil)) rfl))))), ?_⟩
    refine ⟨_, rfl, v, sh, rfl, hv, kn, fun H1 S1 => ?_⟩
    have k1' := k1
    cases hd : due sh with
    | some u =>
      refine ⟨_, rfl, rfl, _, rfl, if_tr (by simp [faultV]) ⟨_, rfl, mkO_of ((k1 u hd).mono S1)⟩⟩
    | none =>
      refine ⟨_, rfl, rfl, _, rfl, if_fa (by simp [faultV]) ?_⟩
      have hx1 := S1 _ _ hx
      cases sh with
      | sc u => cases hd
      | dk => cases hd
      | lst xs =>
        obtain ⟨p, rfl, hp⟩ := hv
        obtain ⟨ns, e, g⟩ := good_of hd
        subst e
        have npx : p ≠ x := ne_of hp hx (by intro z; cases z)
        have h1 := S1 _ _ hp
        refine ⟨_, rfl, p, _, rfl, .inl ⟨SqL.of h1, fun t ht => ?_⟩⟩
        have ntx : t ≠ x := (ne_of_none hx1 ht).symm
        refine ⟨_, rfl, x, C, dx, [], rfl, (by rw [upd_ne ntx.symm]; exact hx1), T.cl, T.nB, (by show 0 < 1000; decide), ?_⟩
        refine ⟨_, rfl, x, C, dx, _, _, rfl, upd_same, T.cl, T.nB, (by rw [lookup_putF, if_pos rfl]), t, _, rfl, .inr (SqT.of (by rw [upd_ne ntx, upd_same])), ?_⟩
        refine ⟨_, rfl, x, C, dx, _, rfl, upd_same, T.cl, T.nM, (by show 1 < 1000; decide), ?_⟩
        refine k2 ns hd rfl _ (fun b o nb eb => ?_) ⟨dx, t, by rw [upd_same, List.length_map]; rfl, by rw [upd_ne ntx, upd_ne ntx, upd_same]⟩
        have e1 := S1 _ _ eb
        rw [upd_ne nb, upd_ne nb, upd_ne (ne_of_none e1 ht)]
        exact e1
      | tup xs =>
        obtain ⟨p, rfl, hp⟩ := hv
        obtain ⟨ns, e, g⟩ := good_of hd
        subst e
        have npx : p ≠ x := ne_of hp hx (by intro z; cases z)
        have h1 := S1 _ _ hp
        refine ⟨_, rfl, p, _, rfl, .inr ⟨SqT.of h1, ?_⟩⟩
        refine ⟨_, rfl, x, C, dx, [], rfl, hx1, T.cl, T.nB, (by show 0 < 1000; decide), ?_⟩
        refine ⟨_, rfl, x, C, dx, _, _, rfl, upd_same, T.cl, T.nB, (by rw [lookup_putF, if_pos rfl]), p, _, rfl, .inr (SqT.of (by rw [upd_ne npx]; exact h1)), ?_⟩
        refine ⟨_, rfl, x, C, dx, _, rfl, upd_same, T.cl, T.nM, (by show 1 < 1000; decide), ?_⟩
        refine k2 ns hd rfl _ (fun b o nb eb => ?_) ⟨dx, p, by rw [upd_same, List.length_map]; rfl, by rw [upd_ne npx, upd_ne npx]; exact h1⟩
        rw [upd_ne nb, upd_ne nb]
        exact S1 _ _ eb
end
end J

set_option Elab.async false
set_option linter.all false
set_option maxRecDepth 100000
set_option maxHeartbeats 4000000
namespace J
open PySem PySem.Spec PyProof.Rows L2
def wordV : Option Str → V
  | none => .non
  | some w => .str w
def spDueX : Sp := fun vs H Q E => ∃ (v : V) (s : Sh), vs = [v] ∧ Is H v s ∧ Known H (items s) ∧ ∀ H', Same H H' → Q (wordV (due s)) H'
theorem dueS_count {xs : List V} (h : ¬ (2 ≤ xs.length ∧ xs.length ≤ 4)) : dueS xs = some ("count" : Str) := by
  unfold dueS
  rw [if_neg h]
theorem dueS_tie {xs : List V} {x : V} (h : 2 ≤ xs.length ∧ xs.length ≤ 4) (hx : x ∈ xs) (e : wholeB x 0 ((xs.length : Nat) - 1) = false) : dueS xs = some ("tie" : Str) := by
  unfold dueS
  rw [if_pos h, if_neg]
  intro q
  rw [q x hx] at e
  cases e
theorem dueS_back {xs : List V} {k : Nat} (h : 2 ≤ xs.length ∧ xs.length ≤ 4) (ha : ∀ x ∈ xs, wholeB x 0 ((xs.length : Nat) - 1) = true) (hk : k < xs.length) (e : backB xs k = false) : dueS xs = some ("back" : Str) := by
  unfold dueS
  rw [if_pos h, if_pos ha, if_neg]
  intro q
  rw [q k hk] at e
  cases e
theorem dueS_none {xs : List V} (h : 2 ≤ xs.length ∧ xs.length ≤ 4) (ha : ∀ x ∈ xs, wholeB x 0 ((xs.length : Nat) - 1) = true) (e : ∀ k, k < xs.length → backB xs k = true) : dueS xs = none := by
  unfold dueS
  rw [if_pos h, if_pos ha, if_pos e]
theorem whole_lo {n lo hi : Int} (h : ¬ lo ≤ n) : wholeB (.int n) lo hi = false := by
  show (decide (lo ≤ n) && decide (n ≤ hi)) = false
  rw [decide_eq_false h]
  rfl
theorem whole_hi {n lo hi : Int} (h : ¬ n ≤ hi) : wholeB (.int n) lo hi = false := by
  show (decide (lo ≤ n) && decide (n ≤ hi)) = false
  rw [decide_eq_false h, Bool.and_false]
theorem is_new {K : PySem.W.Frag} {H : Hp} {x : V} {s : Sh} {p : Addr} (hx : Is H x s) (hp : H p = none) : ∃ t : String, TyX K (upd H p (.tup [.ty "list", .ty "tuple"])) x (.type t) ∧ PySem.W.kitAny K (.type t) [.type "list", .type "tuple"] = some (s.isL || s.isT) := by
  obtain ⟨t, ht, _, _, k1, k2⟩ := (hx.keep (new_same hp)).ty (K := K)
  exact ⟨t, ht, kit_seq k1 k2⟩
theorem isi_seq2 {K : PySem.W.Frag} {H : Hp} {x : V} {s : Sh} {Q : VK} {p : Addr} (hx : Is H x s) (hp : H p = none) (k : ∀ H', Same H H' → Q (.bl (s.isL || s.isT)) H') : rIsiT K [x, .ref p] (upd H p (.tup [.ty "list", .ty "tuple"])) Q := (isi_seq hx k).2 p hp
section
variable {P : Program} {w : World} {K : PySem.W.Frag} {mg : Str → Option Value} {base : Heap}
end
end J

set_option Elab.async false
set_option linter.all false
set_option maxRecDepth 100000
set_option maxHeartbeats 4000000
namespace J
open PySem PySem.Spec PyProof.Rows L2
/-! ### calls that may raise, within a try -/
section
variable {X : Cx} {CX : CXT} {k : Nat} {f C : Addr} {fd : FuncData} {ps : List Str} {sp : Sp} {E : L2.St → XK} {x m : Str} {p pos apos : Pos} {e o : Expr} {es : List Expr} {ta : TE} {t : TA}
def tMethS (m : Str) (sp : Sp) (C : Addr) (E : L2.St → XK) (ta : TE) (t : TA) : TE := fun σ H Q => ta σ H fun x H1 => ∃ a dx fs, x = .ref a ∧ H1 a = some (.ins C dx fs) ∧ fs.lookup m = none ∧ t σ H1 fun vs H2 => sp (.ref a :: vs) H2 Q (E σ)
theorem pmetS {pl : Sem Bool} (he : PE X o ta) (c : Cls X.K C) (hm : Meth X.K C m f) (F : FnOk X.prog X.w X.K X.mg X.base CX k f fd ps sp) (hr : Room k X.A) (hb : Binds X.K fd ps [])
    (hx : ∀ σ, PassesAt CX X σ (E σ)) (ha : PA X (e :: es) t)
    (hst : starEach (e :: es) X.env = (false, eval e X.env) :: starEach es X.env := by rfl)
    (hpl : (backTo pos (starEach es X.env)).any (·.1) = false := by rfl)
    (ht : eval (.Call (.Attribute o m apos) (e :: es) [] pos) X.env = (do let ov ← eval o X.env; standAt apos.atName; let (f, first) ← holding [ov] (getMethod ov m pl); callWith pos f first (backTo pos (starEach (e :: es) X.env)) (backToKw pos (keywordEach [] X.env))) := by rfl) :
    PE X (.Call (.Attribute o m apos) (e :: es) [] pos) (tMethS m sp C E ta t) := by
  constructor
  intro pins s σ H Q I h
  refine PySem.W.methodCall_KW (pl := pl) (thn (he.run pins s σ H _ I h) ?_) ht
  rintro u s1 ⟨x, H1, I1, rx, a, dx, fs, ex, ea, l, q⟩
  subst ex
  obtain rfl : u = Value.ref a := rx
  apply getmeth_ok I1 ea c hm l
  refine PySem.W.callWith_K (first := [.ref a]) (h₀ := X.base) I.ok.mod.kin hm.kp (thn (ha.run pos pins s1 σ H1 _ I1 q) ?_) hst hpl
  rintro us s2 ⟨vs, H2, I2, r, q2⟩
  refine ⟨I2.kIn, ?_⟩
  exact run_fnS (us := .ref a :: us) (vs := .ref a :: vs) F hr hb (hx σ) I2 (.cons rfl r) q2
def tMakeS (C : Addr) (sp : Sp) (E : L2.St → XK) (t : TA) : TE := fun σ H Q => t σ H fun vs H1 => ∀ x dx, H1 x = none → H1 dx = none → dx ≠ x → sp (.ref x :: vs) (upd (upd H1 dx (.own x)) x (.ins C dx [])) (fun v H2 => v = .non ∧ Q (.ref x) H2) (E σ)
theorem pmakS (M : Mk X.K C f) (F : FnOk X.prog X.w X.K X.mg X.base CX k f fd ps sp) (hr : Room (k + 1) X.A) (hg : Gl X x) (hm : X.mg x = some (.ref C)) (hb : Binds X.K fd ps []) (hx : ∀ σ, PassesAt CX X σ (E σ))
    (ha : PA X (e :: es) t) (hdb : (x == ("__debug__" : Str)) = false := by decide)
    (he : starEach (e :: es) X.env = (false, eval e X.env) :: starEach es X.env := by rfl)
    (hpl : (backTo pos (starEach es X.env)).any (·.1) = false := by rfl) :
    PE X (.Call (.Name x p) (e :: es) [] pos) (tMakeS C sp E t) := by
  constructor
  intro pins s σ H Q I h
  refine wpAny_Call_Name_kw (ld_glob I hg hm ?_ hdb)
  refine PySem.W.callWith_K (h₀ := X.base) I.ok.mod.kin M.kp (thn (ha.run pos pins s σ H _ I h) ?_) he hpl
  rintro us s1 ⟨vs, H1, I1, r, q⟩
  refine ⟨I1.kIn, ?_⟩
  have hq := q (s1.heap.objs.size + 1) s1.heap.objs.size (I1.hok.fresh (Nat.le_succ _)) (I1.hok.fresh (Nat.le_refl _)) (Nat.ne_of_lt (Nat.lt_succ_self _))
  have I2 := Inv.made (C := C) I1
  have r2 : Vals (V.ref (s1.heap.objs.size + 1) :: vs) (Value.ref (s1.heap.objs.size + 1) :: us) := .cons rfl r
  have hl : (Value.ref (s1.heap.objs.size + 1) :: us).length = ps.length := by
    rw [← r2.length]
    exact F.len _ _ _ _ hq
  have bd := hb _ (Value.ref (s1.heap.objs.size + 1) :: us) I2.kIn (by rw [List.append_nil]; exact hl)
  rw [List.append_nil] at bd
  have run := F.run _ X.stack _ _ ⟨Value.ref (s1.heap.objs.size + 1) :: us, []⟩ (Value.ref (s1.heap.objs.size + 1) :: us) _ _ (E σ) (hr.make C us []) (I2.env0.make C us []) bd r2 hq
  refine wpAny_call (make_map (f := f) I1.kIn M.makes M.init (beq_iff_eq.mp M.fn) (codeAny_mono run ?_))
  intro r s' hq'
  rcases r with er | fl
  · exact hx σ pins _ _ er s' I2 hq'
  · cases fl with
    | ret u =>
      obtain ⟨v, H', I3, rv, ev, q3⟩ := I2.after hq'
      subst ev
      exact ⟨rv, V.ref (s1.heap.objs.size + 1), H', I3, rfl, q3⟩
    | next => exact hq'.elim
    | brk => exact hq'.elim
    | cont => exact hq'.elim
end
/-! ### == by the text's own __eq__ -/
def rEqOwn (C : Addr) (sp : Sp) (E : XK) : R2 := fun x y H Q => ∃ a b dx fs, x = .ref a ∧ y = .ref b ∧ H a = some (.ins C dx fs) ∧ ((∃ dy gs, H b = some (.ins C dy gs)) ∨ ∃ ys, H b = some (.tup ys)) ∧ sp [x, y] H (fun v H' => (∃ c, v = .bl c) ∧ Q v H') E
theorem op_eqOwn {X : Cx} {CX : CXT} {n : Nat} {C f : Addr} {fd : FuncData} {ps : List Str} {sp : Sp} {E : XK} (F : FnOk X.prog X.w X.K X.mg X.base CX n f fd ps sp)
    (hs : PySem.W.findIn X.K (.ref C) "__eq__" = some (some (.ref f))) (hf : PySem.W.isFn X.K (.ref f) = true) (hb : Binds X.K fd ps []) (hx : Passes CX X E) (hr : Room n X.A)
    (hn : PySem.W.notFirst X.K C (.type "tuple") = true) : OpR X (compareOp .Eq) (rEqOwn C sp E) := by
  intro pins s σ H x y v u Q I rx ry ⟨a, b, dx, fs, ex, ey, ha, hy, q⟩
  subst ex
  subst ey
  obtain rfl : v = Value.ref a := rx
  obtain rfl : u = Value.ref b := ry
  show wpAny (model X.prog X.w) X.A (richCompare .Eq (.ref a) (.ref b)) (EP X pins σ Q) X.xe s
  obtain ⟨mA, J, _⟩ := ins_get I.hok ha
  obtain ⟨od, J, _⟩ := J.look
  obtain ⟨m, hF⟩ := I.fr
  have r2 : Vals [V.ref a, V.ref b] [Value.ref a, Value.ref b] := .cons rfl (.cons rfl .nil)
  have fin : wpAny (model X.prog X.w) X.A (call (.ref f) [.ref a, .ref b]) (PySem.W.CmpBack (EP X pins σ Q)) X.xe s := by
    refine wpAny_mono (run_fn (dvs := []) (ds := []) (us := [.ref a, .ref b]) (vs := [.ref a, .ref b]) F hr hb .nil hx I r2 q) ?_ fun _ _ z => z
    rintro w s' ⟨z, H', I', rz, ⟨c, rfl⟩, qz⟩
    obtain rfl : w = Value.bool c := rz
    exact ⟨V.bl c, H', I', rfl, qz⟩
  rcases hy with ⟨dy, gs, hb'⟩ | ⟨ys, hb'⟩
  · obtain ⟨mB, J', _⟩ := ins_get I.hok hb'
    obtain ⟨od', J', _⟩ := J'.look
    exact PySem.W.cmp_K (op := .Eq) (tb := .ref C) hr.units0 hF I.ok.mod.kin J J'.type (by simp [PySem.W.notFirst]) hs hf fin
  · obtain ⟨its, rv, ⟨o, h1, h2, _⟩, _⟩ := I.tuple (SqT.of hb')
    have LT : PySem.W.Looks (model X.prog X.w) s.heap (typeOf (.ref b)) (.type "tuple") := fun A Q E s k q => wpAny_typeOf_ref (k _ _ h1) (by rw [h2]; exact q)
    exact PySem.W.cmp_K (op := .Eq) (tb := .type "tuple") hr.units0 hF I.ok.mod.kin J LT hn hs hf fin
/-! ### == of data -/
theorem eqv_ints : ∀ ns ms : List Int, PyData.eqvAll (ns.map PyData.int) (ms.map PyData.int) = decide (ns = ms)
  | [], [] => by simp [PyData.eqvAll]
  | [], m :: ms => by simp [PyData.eqvAll]
  | n :: ns, [] => by simp [PyData.eqvAll]
  | n :: ns, m :: ms => by
    have ih := eqv_ints ns ms
    simp only [List.map_cons, PyData.eqvAll, PyData.eqv, ih]
    by_cases h : n = m
    · by_cases h2 : ns = ms
      · simp [h, h2]
      · simp [h, h2]
    · simp [h]
theorem dp_ints {K : PySem.W.Frag} {H : Hp} : ∀ ns : List Int, DpAll K H (ns.map V.int) (ns.map PyData.int)
  | [] => .nil
  | n :: ns => .cons (.int n) (dp_ints ns)
theorem ints_lay : ∀ ns : List Int, PyData.canLayAll0 (ns.map PyData.int) = true
  | [] => by simp [PyData.canLayAll0]
  | n :: ns => by
    have ih := ints_lay ns
    simp only [List.map_cons, PyData.canLayAll0, ih, PyData.canLay0, Bool.and_self]
theorem ints_depth : ∀ ns : List Int, PyData.depthAll (ns.map PyData.int) ≤ 1
  | [] => by simp [PyData.depthAll]
  | n :: ns => by
    have ih := ints_depth ns
    simp only [List.map_cons, PyData.depthAll, PyData.depth]
    omega
theorem shaped_li (ns : List Int) : SeqAt.shaped (.list (ns.map PyData.int)) = true := by
  have h := ints_depth ns
  show (PyData.canLay0 (.list (ns.map PyData.int)) && decide (PyData.depth (.list (ns.map PyData.int)) ≤ 64)) = true
  rw [Bool.and_eq_true]
  refine ⟨by simp only [PyData.canLay0]; exact ints_lay ns, decide_eq_true ?_⟩
  simp only [PyData.depth]
  omega
theorem shaped_ti (ns : List Int) : SeqAt.shaped (.tuple (ns.map PyData.int)) = true := by
  have h := ints_depth ns
  show (PyData.canLay0 (.tuple (ns.map PyData.int)) && decide (PyData.depth (.tuple (ns.map PyData.int)) ≤ 64)) = true
  rw [Bool.and_eq_true]
  refine ⟨by simp only [PyData.canLay0]; exact ints_lay ns, decide_eq_true ?_⟩
  simp only [PyData.depth]
  omega
theorem eqv_li (ns ms : List Int) : PyData.eqv (.list (ns.map PyData.int)) (.list (ms.map PyData.int)) = decide (ns = ms) := by
  simp only [PyData.eqv]
  exact eqv_ints ns ms
theorem eqv_ti (ns ms : List Int) : PyData.eqv (.tuple (ns.map PyData.int)) (.tuple (ms.map PyData.int)) = decide (ns = ms) := by
  simp only [PyData.eqv]
  exact eqv_ints ns ms
end J

set_option Elab.async false
set_option linter.all false
set_option maxRecDepth 100000
set_option maxHeartbeats 4000000
namespace J
open PySem PySem.Spec PyProof.Rows L2
/-! ### backs that are drawn: the mathematics -/
structure BI (m : Nat) (ns ls : List Int) : Prop where
  len : ns.length = m
  rng : ∀ n ∈ ns, 0 ≤ n ∧ n < (m : Nat)
  inv : ∀ (k : Nat) (b : Int), ns[k]? = some b → ns[b.toNat]? = some (k : Int)
  nd : ls.Nodup
  fx : ∀ z ∈ ls, 0 ≤ z ∧ z < (m : Nat) ∧ ns[z.toNat]? = some z
theorem map_erase {α β : Type} (f : α → β) : ∀ (l : List α) (k : Nat), (l.map f).eraseIdx k = (l.eraseIdx k).map f
  | [], _ => rfl
  | a :: l, 0 => rfl
  | a :: l, k + 1 => by
    show f a :: (l.map f).eraseIdx k = f a :: (l.eraseIdx k).map f
    rw [map_erase f l k]
theorem erase_mem {l : List Int} (nd : l.Nodup) {i : Nat} {a z : Int} (ha : l[i]? = some a) (hz : z ∈ l.eraseIdx i) : z ∈ l ∧ z ≠ a := by
  obtain ⟨j, hj, e⟩ := List.mem_eraseIdx_iff_getElem?.mp hz
  refine ⟨List.mem_of_getElem? e, fun q => hj ?_⟩
  subst q
  exact nd_ix nd e ha
theorem BI.step {m : Nat} {ns ls : List Int} (B : BI m ns ls) {i j : Nat} {a b : Int} (ha : ls[i]? = some a) (hb : (ls.eraseIdx i)[j]? = some b) : BI m ((ns.set a.toNat b).set b.toNat a) ((ls.eraseIdx i).eraseIdx j) := by
  have nd1 : (ls.eraseIdx i).Nodup := B.nd.sublist (List.eraseIdx_sublist ls i)
  obtain ⟨mb, nab⟩ := erase_mem B.nd ha (List.mem_of_getElem? hb)
  have ma := List.mem_of_getElem? ha
  obtain ⟨a0, a1, af⟩ := B.fx a ma
  obtain ⟨b0, b1, bf⟩ := B.fx b mb
  have nt : b.toNat ≠ a.toNat := by omega
  have la : a.toNat < ns.length := by rw [B.len]; omega
  have lb : b.toNat < ns.length := by rw [B.len]; omega
  have get : ∀ k : Nat, ((ns.set a.toNat b).set b.toNat a)[k]? = if b.toNat = k then some a else if a.toNat = k then some b else ns[k]? := fun k => by
    rw [List.getElem?_set]
    split
    · rw [List.length_set, if_pos (by omega)]
    · rw [List.getElem?_set]
      split
      · first
          | rfl
          | rw [if_pos (by omega)]
      · rfl
  refine ⟨by rw [List.length_set, List.length_set]; exact B.len, fun n hn => ?_, fun k c hc => ?_, nd1.sublist (List.eraseIdx_sublist _ j), fun z hz => ?_⟩
  · rcases List.mem_or_eq_of_mem_set hn with hn | rfl
    · rcases List.mem_or_eq_of_mem_set hn with hn | rfl
      · exact B.rng n hn
      · exact ⟨b0, b1⟩
    · exact ⟨a0, a1⟩
  · rw [get] at hc
    split at hc
    · rename_i e
      obtain rfl := Option.some.inj hc
      rw [get, if_neg nt, if_pos rfl]
      congr 1
      omega
    · rename_i e1
      split at hc
      · rename_i e2
        obtain rfl := Option.some.inj hc
        rw [get, if_pos rfl]
        congr 1
        omega
      · rename_i e2
        have q := B.inv k c hc
        rw [get, if_neg, if_neg]
        · exact q
        · intro e
          rw [← e, af] at q
          have := Option.some.inj q
          omega
        · intro e
          rw [← e, bf] at q
          have := Option.some.inj q
          omega
  · obtain ⟨z1, zb⟩ := erase_mem nd1 hb hz
    obtain ⟨z2, za⟩ := erase_mem B.nd ha z1
    obtain ⟨c0, c1, cf⟩ := B.fx z z2
    refine ⟨c0, c1, ?_⟩
    rw [get, if_neg (by omega), if_neg (by omega)]
    exact cf
def idI (m : Nat) : List Int := (List.range m).map fun i => ((i : Nat) : Int)
theorem idI_at {m k : Nat} {b : Int} (h : (idI m)[k]? = some b) : b = k ∧ k < m := by
  unfold idI at h
  rw [List.getElem?_map] at h
  have hk : k < m := by
    have q := (List.getElem?_eq_some_iff.mp (by rw [← List.getElem?_map] at h; exact h)).1
    simpa using q
  rw [List.getElem?_range hk] at h
  exact ⟨(Option.some.inj h).symm, hk⟩
theorem idI_get {m k : Nat} (h : k < m) : (idI m)[k]? = some (k : Int) := by
  unfold idI
  rw [List.getElem?_map, List.getElem?_range h]
  rfl
theorem BI.start (m : Nat) : BI m (idI m) (idI m) := by
  have mem : ∀ n ∈ idI m, 0 ≤ n ∧ n < (m : Nat) := fun n hn => by
    obtain ⟨k, hk⟩ := List.getElem?_of_mem hn
    obtain ⟨rfl, h⟩ := idI_at hk
    omega
  refine ⟨by simp [idI], mem, fun k b hb => ?_, ?_, fun z hz => ?_⟩
  · obtain ⟨rfl, h⟩ := idI_at hb
    exact idI_get (by omega)
  · unfold idI
    exact List.Pairwise.map _ (fun a b (h : a ≠ b) => by omega) List.nodup_range
  · obtain ⟨h1, h2⟩ := mem z hz
    refine ⟨h1, h2, ?_⟩
    rw [idI_get (by omega)]
    congr 1
    omega
theorem rgV_id {m : Int} (h : 0 ≤ m) : rgV 0 m = (idI m.toNat).map V.int := by
  unfold rgV idI
  rw [List.map_map, show m - 0 = m by omega]
  refine List.map_congr_left fun i _ => ?_
  show V.int (0 + (i : Int)) = V.int (i : Int)
  rw [Int.zero_add]
theorem seq_at {i : Int} {n : Nat} (h0 : 0 ≤ i) (h : i < (n : Nat)) : seqIndex? i n = some i.toNat := by
  have h1 : ixN n i = some i.toNat := by
    unfold ixN
    rw [if_pos h0, if_pos h]
  exact (ixN_seq h1).1
theorem ixN_at {i : Int} {n : Nat} (h0 : 0 ≤ i) (h : i < (n : Nat)) : ixN n i = some i.toNat := by
  unfold ixN
  rw [if_pos h0, if_pos h]
abbrev s_Lbacks : Stmt := top 28
theorem sc_Lbacks : FnScope ["_law_hand_here", "_law_many", "_law_backs_here", "_law_left", "_law_k", "_law_one", "_law_other"] ["_law_hand_here", "_law_many"] (defScope s_Lbacks) := ⟨rfl, rfl, rfl, by decide +kernel, rfl, by decide +kernel, by decide +kernel⟩
def spBacks : Sp := fun vs H Q _ => ∃ (h q : Addr) (m : Int), vs = [.ref h, .int m] ∧ 2 ≤ m ∧ m ≤ 4 ∧ Hand H h q ∧ ∀ (ns : List Int) (p : Addr) (H' : Hp), (ns.length : Nat) = m → GoodB ns → But h H H' → H p = none → H' p = some (.lst (ns.map V.int)) → Hand H' h q → Q (.ref p) H'
theorem Hand.h_ne {H : Hp} {h q p : Addr} (x : Hand H h q) (n : H p = none) : h ≠ p ∧ q ≠ p := by
  obtain ⟨cs, i, r, t, e1, e2, _⟩ := x
  exact ⟨ne_of_none e1 n, ne_of_none e2 n⟩
theorem But.put2 {h p : Addr} {H H' : Hp} {o : HO} (B : But h H H') (n : H p = none) : But h H (upd H' p o) := fun b u nb e => by
  rw [upd_ne (ne_of_none e n)]
  exact B b u nb e
section
variable {P : Program} {w : World} {K : PySem.W.Frag} {mg : Str → Option Value} {base : Heap}
theorem ok_Lbacks {f fD : Addr} {fd fdD : FuncData} (F : Fun K "_law_backs" "_law_backs" s_Lbacks f fd) (nli : mg "list" = none) (nl : mg "len" = none) (nr : mg "range" = none)
    (GD : Cal P w K mg base CX0 2 "_law_draw" fD fdD ["_law_hand_here", "_law_many"] spDraw) : FnOk P w K mg base CX0 3 f fd ["_law_hand_here", "_law_many"] spBacks := by
  refine F.ok sc_Lbacks (fun vs H Q E h => ?_) (fun cdv A outer s H vs Q E hr h => ?_)
  · obtain ⟨h, q, m, rfl, _⟩ := h
    rfl
  · obtain ⟨h, q, m, rfl, m2, m4, hh, k⟩ := h
    refine ⟨_, (pss_cons 
  (ps_set (i := 2) sc_Lbacks.nd rfl (Or.inl rfl) (pe_listRg rfl (by rfl) nli (prg_1 (by rfl) nr (pv 1)))) (pss_cons 
  (ps_set (i := 3) sc_Lbacks.nd rfl (Or.inl rfl) (pe_listRg rfl (by rfl) nli (prg_1 (by rfl) nr (pv 1)))) (pss_cons 
  (ps_for PassesOwn.never rfl (pi_range1 (by rfl) nr (pa_cons (pe_op op_fdiv (pv 1) pe_int) pa_nil)) (pg_name (i := 4) sc_Lbacks.nd rfl (Or.inl rfl)) (pss_one 
    (ps_if (pt_cmpR op_eq (pcal GD hr pass0 (pa_cons (pv 0) (pa_cons pe_int pa_nil))) pe_int (nomark _)) (pss_cons 
      (ps_set (i := 5) sc_Lbacks.nd rfl (Or.inl rfl) (pe_bm PySem.F.plainAttrs_list PySem.F.slot_list_pop PySem.F.type_list_pop mt_popAt (pv 3) (pa_cons (pcal GD hr pass0 (pa_cons (pv 0) (pa_cons (pe_callB call_len_seq (by rfl) nl PySem.boot_len (pa_cons (pv 3) pa_nil)) pa_nil))) pa_nil))) (pss_cons 
      (ps_set (i := 6) sc_Lbacks.nd rfl (Or.inl rfl) (pe_bm PySem.F.plainAttrs_list PySem.F.slot_list_pop PySem.F.type_list_pop mt_popAt (pv 3) (pa_cons (pcal GD hr pass0 (pa_cons (pv 0) (pa_cons (pe_callB call_len_seq (by rfl) nl PySem.boot_len (pa_cons (pv 3) pa_nil)) pa_nil))) pa_nil))) (pss_cons 
      (ps_asg (pv 6) (pg_sub (pv 2) (pv 5) set_list)) (pss_one 
      (ps_asg (pv 5) (pg_sub (pv 2) (pv 6) set_list)))))) pss_nil))) (pss_one 
  (ps_ret (pv 2)))))), ?_⟩
    have rg : RgOk 0 m := RgOk.of_le (by omega) (by omega) (by omega) (by omega)
    refine ⟨_, rfl, m, rfl, rg, fun p hp => ?_⟩
    refine ⟨_, rfl, m, rfl, rg, fun l hl => ?_⟩
    rw [rgV_id (by omega)]
    rw [rgV_id (by omega)] at hl
    have npl : p ≠ l := ne_of_none upd_same hl
    have hl0 : H l = none := by
      rw [upd_ne npl.symm] at hl
      exact hl
    obtain ⟨nhp, nqp⟩ := hh.h_ne hp
    obtain ⟨nhl, nql⟩ := hh.h_ne hl0
    refine ⟨_, rfl, _, _, rfl, rfl, ⟨by decide, by decide⟩, _, rfl, by omega, by omega, for_range (lo := 0) (n := (m / 2).toNat) (fun i σ H' => ∃ (ns ls : List Int) (v4 v5 v6 : Option V), σ = [some (.ref h), some (.int m), some (.ref p), some (.ref l), v4, v5, v6] ∧
        BI m.toNat ns ls ∧ m.toNat ≤ ls.length + 2 * i ∧ ls.length ≤ m.toNat ∧ But h H H' ∧ Hand H' h q ∧ H' p = some (.lst (ns.map V.int)) ∧ H' l = some (.lst (ls.map V.int)))
      ⟨idI m.toNat, idI m.toNat, none, none, none, rfl, BI.start _, by simp [idI], by simp [idI], ((But.refl h H).put2 hp).put2 hl0, (hh.put nhp nqp).put nhl nql, by rw [upd_ne npl, upd_same], upd_same⟩ ?_ ?_⟩
    · rintro i σ H1 hi ⟨ns, ls, v4, v5, v6, rfl, B, hc, lsm, b1, h1, ep, el⟩
      have hls : 2 ≤ ls.length := by omega
      refine ⟨_, rfl, h, q, 3, rfl, by decide, by decide, h1, fun v H2 v0 v3 b2 h2 => ⟨rfl, _, rfl, ?_⟩⟩
      refine ifD (fun c => ?_) (fun c => ⟨ns, ls, _, _, _, rfl, B, by omega, lsm, b1.trans b2, h2, b2 _ _ nhp.symm ep, b2 _ _ nhl.symm el⟩)
      have ep2 := b2 _ _ nhp.symm ep
      have el2 := b2 _ _ nhl.symm el
      have lml : (ls.map V.int).length = ls.length := List.length_map _
      refine ⟨_, rfl, .inl ⟨rfl, _, SqL.of el2⟩, _, rfl, _, rfl, l, _, rfl, .inl (SqL.of el2), h, q, _, rfl, by omega, by omega, h2, fun a H3 a0 a1 b3 h3 => ?_⟩
      have ep3 := b3 _ _ nhp.symm ep2
      have el3 := b3 _ _ nhl.symm el2
      rw [lml] at a1
      have hla : a.toNat < ls.length := by omega
      have hA : ls[a.toNat]? = some ls[a.toNat] := List.getElem?_eq_getElem hla
      generalize ls[a.toNat] = x at hA
      refine ⟨l, _, a, a.toNat, .int x, rfl, rfl, el3, by omega, by omega, seq_at a0 (by omega), ints_at hA, ?_⟩
      rw [map_erase]
      have e1 : (upd H3 l (.lst ((ls.eraseIdx a.toNat).map V.int))) l = some (.lst ((ls.eraseIdx a.toNat).map V.int)) := upd_same
      have ep4 : (upd H3 l (.lst ((ls.eraseIdx a.toNat).map V.int))) p = some (.lst (ns.map V.int)) := by rw [upd_ne npl]; exact ep3
      have h4 : Hand (upd H3 l (.lst ((ls.eraseIdx a.toNat).map V.int))) h q := h3.put nhl nql
      have b4 : But h H (upd H3 l (.lst ((ls.eraseIdx a.toNat).map V.int))) := ((b1.trans b2).trans b3).put2 hl0
      have le : (ls.eraseIdx a.toNat).length = ls.length - 1 := by rw [List.length_eraseIdx, if_pos hla]
      have lml2 : ((ls.eraseIdx a.toNat).map V.int).length = ls.length - 1 := by rw [List.length_map, le]
      generalize upd H3 l (.lst ((ls.eraseIdx a.toNat).map V.int)) = H4 at e1 ep4 h4 b4
      refine ⟨_, rfl, .inl ⟨rfl, _, SqL.of e1⟩, _, rfl, _, rfl, l, _, rfl, .inl (SqL.of e1), h, q, _, rfl, by omega, by omega, h4, fun b H5 b0' b1' b5 h5 => ?_⟩
      have ep5 := b5 _ _ nhp.symm ep4
      have el5 := b5 _ _ nhl.symm e1
      rw [lml2] at b1'
      have hlb : b.toNat < (ls.eraseIdx a.toNat).length := by omega
      have hB : (ls.eraseIdx a.toNat)[b.toNat]? = some (ls.eraseIdx a.toNat)[b.toNat] := List.getElem?_eq_getElem hlb
      generalize (ls.eraseIdx a.toNat)[b.toNat] = y at hB
      refine ⟨l, _, b, b.toNat, .int y, rfl, rfl, el5, by omega, by omega, seq_at b0' (by omega), ints_at hB, ?_⟩
      rw [map_erase]
      have B2 := B.step hA hB
      obtain ⟨x0, x1, _⟩ := B.fx x (List.mem_of_getElem? hA)
      obtain ⟨y0, y1, _⟩ := B.fx y (erase_mem B.nd hA (List.mem_of_getElem? hB)).1
      have lns := B.len
      have ep6 : (upd H5 l (.lst (((ls.eraseIdx a.toNat).eraseIdx b.toNat).map V.int))) p = some (.lst (ns.map V.int)) := by rw [upd_ne npl]; exact ep5
      refine ⟨_, rfl, _, rfl, _, rfl, p, _, _, x.toNat, rfl, rfl, ep6, ixN_at x0 (by rw [List.length_map]; omega), ?_⟩
      refine ⟨_, rfl, _, rfl, _, rfl, p, _, _, y.toNat, rfl, rfl, upd_same, ixN_at y0 (by rw [List.length_set, List.length_map]; omega), ?_⟩
      refine ⟨_, _, _, _, _, rfl, B2, ?_, ?_, ?_, ?_, ?_, ?_⟩
      · rw [List.length_eraseIdx, if_pos hlb, le]
        omega
      · rw [List.length_eraseIdx, if_pos hlb, le]
        omega
      · exact (((b4.trans b5).put2 hl0).put2 hp).put2 hp
      · exact (((h5.put nhl nql).put nhp nqp).put nhp nqp)
      · rw [upd_same, List.map_set, List.map_set]
      · rw [upd_ne npl.symm, upd_ne npl.symm, upd_same]
    · rintro σ H1 ⟨ns, ls, v4, v5, v6, rfl, B, hc, lsm, b1, h1, ep, el⟩
      have lns := B.len
      refine ⟨_, rfl, k ns p H1 (by omega) ⟨by omega, by omega, fun n hn => ?_, B.inv⟩ b1 hp ep h1⟩
      have := B.rng n hn
      omega
end
end J

set_option Elab.async false
set_option linter.all false
set_option maxRecDepth 100000
set_option maxHeartbeats 2000000
/-! enumerate over a tuple -/
namespace PySem
open Sem (wp)
open AutoSeq1 (wpAny_loadPart')
abbrev enumO (h : Heap) : Obj := { cls := .type "enumerate", data := .fields #[.none, .bool false, .ref h.objs.size, rawInt 0, .none, .none] }
theorem jMeetsEnum {v : Value} {o : Obj} {H0 : Heap → Prop} (B : Begins v o H0) :
    Meets (Builtin.«enumerate.__new__» ⟨[.type "enumerate", v], []⟩) (fun _ R s => H0 s.heap ∧ R (.ok (.ret (.ref (s.heap.push o).objs.size))) { s with heap := (s.heap.push o).push (enumO s.heap) }) := .of_wp fun prog w A R s h => by
  obtain ⟨hp, g, d, tk, os⟩ := s
  obtain ⟨h1, h⟩ := h
  have hsub := sub_enumerate
  have q1 : ∀ {A' : Around} {E : Value → Shared → Prop} {Q : Value → Shared → Prop}, Q (.ref hp.objs.size) ⟨hp.push o, g, d, tk, os⟩ → wpAny (model prog w) A' (pyIter v) Q E ⟨hp, g, d, tk, os⟩ := fun q => B.iter prog w _ _ ⟨hp, g, d, tk, os⟩ _ h1 q
  wp_walk
  refine wpAny_stack_any fun st => wpAny_pure ?_
  split
  · rename_i c _ _ _ _ _
    cases (c == Value.type "enumerate")
    · wp_walk using q1
      exact ⟨_, rfl, h⟩
    · wp_walk using q1
      exact ⟨_, rfl, h⟩
  · wp_walk using q1
    exact ⟨_, rfl, h⟩
theorem jEnumTup {prog : Program} {w : World} {A : Around} {E : Value → Shared → Prop} {s : Shared} {t : Addr} {items : Array Value} {Q : Value → Shared → Prop} (hT : s.heap.IsTuple t items)
    (h : ∀ h', IsEnum h' (s.heap.objs.size + 1) s.heap.objs.size 0 .none → h'.IsTupleIter s.heap.objs.size t 0 → (∀ b o, s.heap.get? b = some o → h'.get? b = some o) → Q (.ref (s.heap.objs.size + 1)) { s with heap := h' }) :
    wpAny (model prog w) A (call (.type "enumerate") [.ref t]) Q E s := by
  refine callType_new F.called_enumerate (by decide) (F.typeCall_enumerate_1 _) (F.newCall_enumerate_1 _) (fun obj => F.args_object_init_2 obj _) F.entry_enumerate_new (jMeetsEnum (begins_tuple t items)) ⟨hT, ?_⟩
  generalize eo : ({ cls := .type "tuple_iterator", data := .fields #[.ref t, .int 0 0] } : Obj) = o
  have hz : (s.heap.push o).objs.size = s.heap.objs.size + 1 := Heap.size_push ..
  show _ ∧ _
  rw [hz]
  have he : IsEnum ((s.heap.push o).push (enumO s.heap)) (s.heap.objs.size + 1) s.heap.objs.size 0 .none := by
    have q := Heap.get?_push_size (s.heap.push o) (o := enumO s.heap) rfl
    rw [hz] at q
    exact q
  refine ⟨⟨_, he, rfl⟩, h _ he ⟨o, Heap.get?_push_of_some _ (Heap.get?_push_size _ (by subst eo; rfl)), by subst eo; rfl, by subst eo; rfl⟩ fun b ob x => Heap.get?_push_of_some _ (Heap.get?_push_of_some _ x)⟩
end PySem
namespace J
open PySem PySem.Spec PyProof.Rows L2
/-- the tuple at a, its items in new pairs with their places -/
def Itet (K : PySem.W.Frag) (a : Addr) : It :=
  ⟨fun i H => ∃ (xs : List V) (x : V), SqT K H a xs ∧ xs[i]? = some x, fun i H v H' => ∃ T x, v = .ref T ∧ H T = none ∧ H' = upd H T (.tup [.int (i : Nat), x]) ∧ ∀ xs, SqT K H a xs → xs[i]? = some x, fun i H => ∃ xs : List V, SqT K H a xs ∧ xs.length = i⟩
theorem tup_apart {h : Heap} {a e it : Addr} {items : Array Value} {old : Value} {i : Nat} {c : Int} (ht : h.IsTuple a items) (he : IsEnum h e it c old) (hi : h.IsTupleIter it a i) : a ≠ it ∧ a ≠ e := by
  obtain ⟨o, ho, hc, _⟩ := ht
  obtain ⟨o2, ho2, hc2, _⟩ := hi
  refine ⟨fun q => ?_, fun q => ?_⟩
  · rw [q, ho2] at ho
    have := Option.some.inj ho
    subst this
    rw [hc2] at hc
    exact absurd hc (by decide)
  · have he' : h.get? e = _ := he
    rw [q, he'] at ho
    have := Option.some.inj ho
    subst this
    have hc2 : Value.type "enumerate" = Value.type "tuple" := hc
    injection hc2 with z
    exact absurd z (by decide)
theorem turn_enumT {P : Program} {w : World} {K : PySem.W.Frag} {elts : List Expr} {kk : Nat} {tpos : Pos} (a e it : Addr) :
    Turn P w K (.Tuple elts kk tpos) (Itet K a) [e, it] e (fun i h => (∃ old, IsEnum h e it ((i : Nat) : Int) old) ∧ h.IsTupleIter it a i ∧ e ≠ it) where
  mem := by simp
  obj := by
    rintro i h ⟨⟨old, he⟩, ⟨o, ho, hc, hd⟩, _⟩ b hb
    have e' : b = e ∨ b = it := by simpa using hb
    rcases e' with rfl | rfl
    · exact ⟨_, he, fun v q => nomatch q⟩
    · exact ⟨o, ho, fun v q => by rw [hd] at q; cases q⟩
  keep := by
    rintro i h h' ⟨⟨old, he⟩, ⟨o, ho, hr⟩, hne⟩ k
    exact ⟨⟨old, k e (by simp) _ he⟩, ⟨o, k it (by simp) _ ho, hr⟩, hne⟩
  item := by
    intro X hP hw hK hc i pins s σ H E I hf st hg
    subst hP hw hK
    obtain ⟨⟨old, he⟩, hit, hne⟩ := st
    obtain ⟨xs, x, hq, hx⟩ := hg
    obtain ⟨its, rv, p, hz⟩ := I.tuple hq
    obtain ⟨u, hu, ru⟩ := rv.get hx
    have ht : s.heap.IsTuple a its.toArray := p
    obtain ⟨n1, n2⟩ := tup_apart ht he hit
    have hel : e < s.heap.objs.size := Heap.lt_size he
    have hil : it < s.heap.objs.size := by
      obtain ⟨_, q, _⟩ := hit
      exact Heap.lt_size q
    have hlt : i < its.toArray.size := by
      have q := (List.getElem?_eq_some_iff.mp hu).1
      simpa using q
    have D := Draws.tuple (prog := X.prog) (w := X.w) (A := X.A.in1) (I.ok.hd hc) it a n1 its.toArray
    have nin : e ∉ [it, a] := by
      simp only [List.mem_cons, List.not_mem_nil, or_false, not_or]
      exact ⟨hne, fun q => n2 q.symm⟩
    refine wpAny_pyNext_enum_itemD D he ⟨hit, ht⟩ hlt hne nin ?_
    intro u2 h' tk hP ho hst hT hsz hk
    obtain rfl : u = u2 := by
      have q : its.toArray[i]? = some u2 := hP
      have q2 : its.toArray[i]? = some u := by simpa using hu
      rw [q2] at q
      exact Option.some.inj q
    refine ⟨_, rfl, wpAny_letOwnedTupleGo_enum (s := { s with heap := h', toks := tk + 1 }) ho ?_⟩
    intro h2 he2 sb
    have hT2 : h2.get? s.heap.objs.size = some { cls := .type "tuple", data := .seq #[.int i tk, u] } := (sb.2 _ (Nat.ne_of_gt hel)).trans hT
    have new : ObjOk X.prog X.w (upd H s.heap.objs.size (.tup [.int (i : Nat), x])) h2 s.heap.objs.size (.tup [.int (i : Nat), x]) :=
      ⟨by show 2 ≤ sizeLine; decide, [.int i tk, u], .cons ⟨_, rfl⟩ (.cons ru .nil), ⟨_, hT2, rfl, _, rfl⟩⟩
    have kept : ∀ (b : Addr) (ob : Obj), b ∉ [e, it] → s.heap.get? b = some ob → h2.get? b = some ob := fun b ob hb q => by
      have b1 : b ≠ e := fun z => hb (by simp [z])
      have b2 : b ≠ it := fun z => hb (by simp [z])
      exact (sb.2 b b1).trans (hk b ob b1 b2 q)
    have I1 : Inv X pins σ (upd H s.heap.objs.size (.tup [.int (i : Nat), x])) { s with heap := h2, toks := tk + 1 } := I.turnedNew (ch := [e, it]) kept hf (Nat.le_refl _) new
    refine ⟨.ref s.heap.objs.size, _, I1, rfl, ⟨_, x, rfl, I.hok.fresh (Nat.le_refl _), rfl, fun ys hy => by rw [I.tuple_inj hy hq]; exact hx⟩, ⟨⟨u, ?_⟩, hst.1.at fun o q => (sb.2 it (Ne.symm hne)).trans q, hne⟩, fun b hb => ?_⟩
    · have e1 : ((i + 1 : Nat) : Int) = (i : Int) + 1 := by omega
      rw [e1]
      exact he2
    · have hb' : b < s.heap.objs.size := by
        have e' : b = e ∨ b = it := by simpa using hb
        rcases e' with z | z
        · rw [z]
          exact hel
        · rw [z]
          exact hil
      rw [upd_ne (Nat.ne_of_lt hb')]
      exact (hf b hb).1
  done := by
    intro X hP hw hK hc i pins s σ H E I hf st hg
    subst hP hw hK
    obtain ⟨⟨old, he⟩, hit, hne⟩ := st
    obtain ⟨xs, hq, hx⟩ := hg
    obtain ⟨its, rv, p, hz⟩ := I.tuple hq
    have ht : s.heap.IsTuple a its.toArray := p
    obtain ⟨n1, n2⟩ := tup_apart ht he hit
    obtain ⟨f0, f1, f2, f3, f4, f5⟩ := hf it (by simp)
    have D := Draws.tuple (prog := X.prog) (w := X.w) (A := X.A.in1) (I.ok.hd hc) it a n1 its.toArray
    have hn : its.toArray.size = i := by
      have hl := rv.length
      simp
      omega
    refine wpAny_pyNext_enum_endD D he ⟨by rw [hn]; exact hit, ht⟩ ?_
    intro h' eb
    exact ⟨rfl, I.turned (t' := s.toks) (fun b o hb q => eb b o hb q) f0 f1 f3 f4 f5⟩
  self := fun A i s Q E ⟨⟨_, he⟩, _⟩ h => wpAny_pyIter_enum he h
def iEnumT (K : PySem.W.Frag) (ta : TA) : TI := fun σ H R => ta σ H fun vs H1 => ∃ a xs, vs = [.ref a] ∧ SqT K H1 a xs ∧ R (Itet K a) H1
theorem pi_enumT {X : Cx} {e : Expr} {ta : TA} {p pos tpos : Pos} {elts : List Expr} {kk : Nat} (hg : Gl X "enumerate") (hm : X.mg "enumerate" = none) (ha : PA X [e] ta)
    (hs : starEach [e] X.env = [(false, eval e X.env)] := by rfl) : PI X (.Tuple elts kk tpos) (.Call (.Name "enumerate" p) [e] [] pos) (iEnumT X.K ta) := by
  constructor
  intro pins s σ H R I h
  refine Call_ (ld_blt I hg hm boot_enumerate (PyProof.Rows.callWith_type1 (thn (ha.run pos pins s σ H _ I h) ?_) hs rfl))
  rintro us s1 ⟨vs, H1, I1, r1, a, xs, ex, hq, q⟩
  subst ex
  cases r1 with
  | cons r rr =>
    cases rr
    cases r
    obtain ⟨its, rv, p', hz⟩ := I1.tuple hq
    refine jEnumTup (items := its.toArray) p' ?_
    intro h' he hit hk
    refine wpAny_pyIter_enum he ?_
    have I2 : Inv X pins σ H1 { s1 with heap := h' } := I1.kept (t' := s1.toks) hk
    refine ⟨s1.heap.objs.size + 1, [s1.heap.objs.size + 1, s1.heap.objs.size], _, _, H1, rfl, I2, turn_enumT a (s1.heap.objs.size + 1) s1.heap.objs.size, ⟨⟨.none, he⟩, hit, Nat.succ_ne_self _⟩, ?_, q⟩
    intro b hb
    have e' : b = s1.heap.objs.size + 1 ∨ b = s1.heap.objs.size := by simpa using hb
    have hle : s1.heap.objs.size ≤ b := by
      rcases e' with z | z
      · rw [z]
        exact Nat.le_succ _
      · rw [z]
        exact Nat.le_refl _
    exact I1.fpOk hle (I1.hok.fresh hle)
theorem for_enumT {K : PySem.W.Frag} {a : Addr} {xs : List V} {g : TG} {tb : TS} {D : Ends} {σ : L2.St} {H : Hp} (Pv : Nat → L2.St → Hp → Prop) (h0 : Pv 0 σ H) (hl : ∀ i σ H, i ≤ xs.length → Pv i σ H → SqT K H a xs)
    (hs : ∀ i x σ H T, xs[i]? = some x → Pv i σ H → H T = none → g (.ref T) σ (upd H T (.tup [.int (i : Nat), x])) fun σ2 H2 => tb { D with nx := Pv (i + 1), ct := Pv (i + 1), bk := D.nx } σ2 H2) (hd : ∀ σ H, Pv xs.length σ H → D.nx σ H) :
    ∃ W : Nat → Nat → L2.St → Hp → Prop, (∃ m, W 0 m σ H) ∧ ∀ i m σ H, W i m σ H →
      ((Itet K a).stop i H ∧ D.nx σ H) ∨ ((Itet K a).go i H ∧ ∃ N : L2.St → Hp → Prop, (∀ σ' H', N σ' H' → ∃ m', m' < m ∧ W (i + 1) m' σ' H') ∧ ∀ x H', (Itet K a).yld i H x H' → g x σ H' fun σ2 H2 => tb { D with nx := N, ct := N, bk := D.nx } σ2 H2) := by
  refine ⟨fun i m s h => m + i = xs.length ∧ Pv i s h, ⟨xs.length, rfl, h0⟩, ?_⟩
  rintro i m σ H ⟨em, p⟩
  have hi : i ≤ xs.length := by omega
  have q := hl i σ H hi p
  rcases Nat.lt_or_ge i xs.length with hlt | hge
  · refine .inr ⟨⟨xs, xs[i], q, by simp [hlt]⟩, Pv (i + 1), fun σ' H' p' => ⟨m - 1, by omega, by omega, p'⟩, ?_⟩
    rintro x H' ⟨T, y, rfl, hT, rfl, hy⟩
    exact hs i y σ H T (hy xs q) p hT
  · have e : i = xs.length := by omega
    subst e
    exact .inl ⟨⟨xs, q, rfl⟩, hd σ H p⟩
end J

set_option Elab.async false
set_option linter.all false
set_option maxRecDepth 100000
set_option maxHeartbeats 4000000
namespace J
open PySem PySem.Spec PyProof.Rows L2
/-! ### an own error with two fields -/
def spXI2 (C : Addr) (f g : Str) : Sp := fun vs H Q _ => ∃ (a : Addr) (v u : V), vs = [.ref a, v, u] ∧ H a = some (exo a C none) ∧ ∀ dx, H dx = none → dx ≠ a → Q .non (upd (upd (upd H dx (exd dx [(f, v)])) a (exo a C (some dx))) dx (exd dx [(g, u), (f, v)]))
structure Ex2 (P : Program) (w : World) (K : PySem.W.Frag) (mg : Str → Option Value) (base : Heap) (x f g : Str) (C fI : Addr) (fd : FuncData) (ps : List Str) : Prop where
  o : OexC K C
  i : PySem.W.findIn K (.ref C) "__init__" = some (some (.ref fI))
  t : PySem.W.typeIn K (.ref fI) = some (.type "function")
  F : FnOk P w K mg base CX0 1 fI fd ps (spXI2 C f g)
  b : Binds K fd ps []
  m : mg x = some (.ref C)
  xf : XfC K C
  no1 : PySem.W.findIn K (.ref C) f = some none
  no2 : PySem.W.findIn K (.ref C) g = some none
  te : PySem.W.exmOne K (.ref C) (.ref C) = some true
def Tells2 (H : Hp) (C : Addr) (f g : Str) (v u : V) (E : XK) : Prop := ∀ d H', H d = none → Same H H' → H' d = some (.xd [(g, u), (f, v)]) → E (.ref C) (some d) H'
theorem Tells2.mono {H H1 : Hp} {C : Addr} {f g : Str} {v u : V} {E : XK} (h : Tells2 H C f g v u E) (S : Same H H1) : Tells2 H1 C f g v u E := fun d H' n S1 e => h d H' (S.free n) (S.trans S1) e
theorem mkO_of2 {C : Addr} {f g : Str} {v u : V} {H : Hp} {Q : XK} (h : Tells2 H C f g v u Q) : [v, u].length ≤ 1000 ∧ ∀ a, H a = none → spXI2 C f g (.ref a :: ([v, u] ++ [])) (upd H a (exo a C none))
    (fun z H2 => z = .non ∧ ∃ (d : Addr) (fs : List (Str × V)), H2 a = some (exo a C (some d)) ∧ H2 d = some (exd d fs) ∧ H d = none ∧ Q (.ref C) (some d) (upd (del H2 a) d (.xd fs))) (fun _ _ _ => False) := by
  refine ⟨(by show 2 ≤ 1000; decide), fun a ha => ⟨a, v, u, rfl, upd_same, fun dx hdx ne => ⟨rfl, dx, [(g, u), (f, v)], ?_, upd_same, ?_, ?_⟩⟩⟩
  · rw [upd_ne ne.symm, upd_same]
  · rw [upd_ne ne] at hdx
    exact hdx
  · rw [upd_ne ne] at hdx
    refine h _ _ hdx (fun b o e => ?_) upd_same
    have n1 := ne_of_none e hdx
    have n2 := ne_of_none e ha
    rw [upd_ne n1, del_ne n2, upd_ne n1, upd_ne n2, upd_ne n1, upd_ne n2]
    exact e
abbrev s_BadCompany_init : Stmt := inClass (top 5) 0
theorem sc_BadCompany_init : FnScope ["self", "index", "what"] ["self", "index", "what"] (defScope s_BadCompany_init) := ⟨rfl, rfl, rfl, by decide +kernel, rfl, by decide +kernel, by decide +kernel⟩
section
variable {P : Program} {w : World} {K : PySem.W.Frag} {mg : Str → Option Value} {base : Heap}
theorem ok_BadCompany_init {f C : Addr} {fd : FuncData} (F : Fun K "__init__" "BadCompany.__init__" s_BadCompany_init f fd) (o : OexC K C) (no1 : PySem.W.findIn K (.ref C) "index" = some none) (no2 : PySem.W.findIn K (.ref C) "what" = some none) :
    FnOk P w K mg base CX0 1 f fd ["self", "index", "what"] (spXI2 C "index" "what") := by
  refine F.ok sc_BadCompany_init (fun vs H Q E h => ?_) (fun cdv A outer s H vs Q E hr h => ?_)
  · obtain ⟨x, s, u, rfl, _⟩ := h
    rfl
  · obtain ⟨a, v, u, rfl, ha, k⟩ := h
    refine ⟨_, pss_cons (ps_ost (pv 0) (pv 1)) (pss_one (ps_ost (pv 0) (pv 2))), ?_⟩
    refine ⟨_, rfl, _, rfl, a, C, rfl, o, no1, .inl ⟨ha, fun dx hdx ne => ?_⟩⟩
    refine ⟨_, rfl, _, rfl, a, C, rfl, o, no2, .inr ⟨dx, [("index", v)], upd_same, by rw [upd_ne ne, upd_same], (by show 1 ≤ 900; decide), ?_⟩⟩
    exact k dx hdx ne
end
/-! ### a row is judged -/
def rowW (m n : Nat) (s : Sh) : Option Str :=
  if (s.isL || s.isT) = true then
    if (items s).length = n then
      if ∀ x ∈ items s, wholeB x 0 ((m : Nat) - 1) = true then none else some "tie"
    else some "length"
  else some "row"
theorem rowW_row {m n : Nat} {s : Sh} (h : (s.isL || s.isT) = false) : rowW m n s = some ("row" : Str) := by
  unfold rowW
  rw [if_neg (by simp [h])]
theorem rowW_length {m n : Nat} {s : Sh} (h : (s.isL || s.isT) = true) (h2 : (items s).length ≠ n) : rowW m n s = some ("length" : Str) := by
  unfold rowW
  rw [if_pos h, if_neg h2]
theorem rowW_tie {m n : Nat} {s : Sh} {x : V} (h : (s.isL || s.isT) = true) (h2 : (items s).length = n) (hx : x ∈ items s) (e : wholeB x 0 ((m : Nat) - 1) = false) : rowW m n s = some ("tie" : Str) := by
  unfold rowW
  rw [if_pos h, if_pos h2, if_neg]
  intro q
  rw [q x hx] at e
  cases e
theorem rowW_none {m n : Nat} {s : Sh} (h : (s.isL || s.isT) = true) (h2 : (items s).length = n) (ha : ∀ x ∈ items s, wholeB x 0 ((m : Nat) - 1) = true) : rowW m n s = none := by
  unfold rowW
  rw [if_pos h, if_pos h2, if_pos ha]
abbrev s_check_row : Stmt := top 21
theorem sc_check_row : FnScope ["ties", "index", "row", "length", "tie"] ["ties", "index", "row", "length"] (defScope s_check_row) := ⟨rfl, rfl, rfl, by decide +kernel, rfl, by decide +kernel, by decide +kernel⟩
def spRow (C CB : Addr) : Sp := fun vs H Q E => ∃ (t : Addr) (ns : List Int) (j n : Nat) (x : V) (s : Sh), vs = [.ref t, .int (j : Nat), x, .int (n : Nat)] ∧ TiesAt C H t ns ∧ Is H x s ∧ Known H (items s) ∧
  (∀ u, rowW ns.length n s = some u → Tells2 H CB "index" "what" (.int (j : Nat)) (.str u) E) ∧ (rowW ns.length n s = none → ∀ H', Same H H' → Q .non H')
section
variable {P : Program} {w : World} {K : PySem.W.Frag} {mg : Str → Option Value} {base : Heap}
theorem ok_check_row {f C CB fS fH fI : Addr} {fd fdS fdH fdI : FuncData} (F : Fun K "_check_row" "_check_row" s_check_row f fd) (T : TiC K C) (nl : mg "len" = none)
    (GS : Cal P w K mg base CX0 1 "is_sequence" fS fdS ["thing"] spSeq) (GH : Mt P w K mg base CX0 2 C "has" fH fdH ["self", "thing"] (spHas C)) (GB : Ex2 P w K mg base "BadCompany" "index" "what" CB fI fdI ["self", "index", "what"]) :
    FnOk P w K mg base (L2.CX P w) 3 f fd ["ties", "index", "row", "length"] (spRow C CB) := by
  refine F.okX sc_check_row (fun vs H Q E h => ?_) (fun cdv A outer s H vs Q E hr h => ?_)
  · obtain ⟨t, ns, j, n, x, s, rfl, _⟩ := h
    rfl
  · obtain ⟨t, ns, j, n, x, sh, rfl, hT, hx, kn, k1, k2⟩ := h
    have hr2 : Room 2 _ := hr
    cases sh with
    | sc u =>
      refine ⟨_, (pss_cons 
  (ps_if (pt_not (pt_val (pcal GS hr pass0 (pa_cons (pv 2) pa_nil)))) (pss_one (ps_raise rfl (takes_of rfl rfl rfl rfl) (pmk_oex GB.o GB.i GB.t GB.F hr2 GB.b .nil pass0 rfl GB.m (pa_cons (pv 1) (pa_cons pe_str pa_nil))))) pss_nil) (pss_cons 
  (ps_if (pt_cmpR op_ne (pe_callB call_len_seq (by rfl) nl PySem.boot_len (pa_cons (pv 2) pa_nil)) (pv 3) (nomark _)) (pss_one (ps_raise rfl (takes_of rfl rfl rfl rfl) (pmk_oex GB.o GB.i GB.t GB.F hr2 GB.b .nil pass0 rfl GB.m (pa_cons (pv 1) (pa_cons pe_str pa_nil))))) pss_nil) (pss_one 
  (ps_for (passes_of rfl) rfl (pi_list (pv 2)) (pg_name (i := 4) sc_check_row.nd rfl (Or.inl rfl)) (pss_one 
    (ps_if (pt_not (pt_val (pe_meth (pv 0) T.cl GH.M GH.F hr2 GH.b .nil pass0 (pa_cons (pv 4) pa_nil)))) (pss_one (ps_raise rfl (takes_of rfl rfl rfl rfl) (pmk_oex GB.o GB.i GB.t GB.F hr2 GB.b .nil pass0 rfl GB.m (pa_cons (pv 1) (pa_cons pe_str pa_nil))))) pss_nil)))))), ?_⟩
      exact ⟨_, rfl, x, (.sc u), rfl, hx, fun H1 S1 => ⟨_, rfl, iteT ⟨_, rfl, mkO_of2 ((k1 "row" (rowW_row rfl)).mono S1)⟩⟩⟩
    | dk =>
      refine ⟨_, (pss_cons 
  (ps_if (pt_not (pt_val (pcal GS hr pass0 (pa_cons (pv 2) pa_nil)))) (pss_one (ps_raise rfl (takes_of rfl rfl rfl rfl) (pmk_oex GB.o GB.i GB.t GB.F hr2 GB.b .nil pass0 rfl GB.m (pa_cons (pv 1) (pa_cons pe_str pa_nil))))) pss_nil) (pss_cons 
  (ps_if (pt_cmpR op_ne (pe_callB call_len_seq (by rfl) nl PySem.boot_len (pa_cons (pv 2) pa_nil)) (pv 3) (nomark _)) (pss_one (ps_raise rfl (takes_of rfl rfl rfl rfl) (pmk_oex GB.o GB.i GB.t GB.F hr2 GB.b .nil pass0 rfl GB.m (pa_cons (pv 1) (pa_cons pe_str pa_nil))))) pss_nil) (pss_one 
  (ps_for (passes_of rfl) rfl (pi_list (pv 2)) (pg_name (i := 4) sc_check_row.nd rfl (Or.inl rfl)) (pss_one 
    (ps_if (pt_not (pt_val (pe_meth (pv 0) T.cl GH.M GH.F hr2 GH.b .nil pass0 (pa_cons (pv 4) pa_nil)))) (pss_one (ps_raise rfl (takes_of rfl rfl rfl rfl) (pmk_oex GB.o GB.i GB.t GB.F hr2 GB.b .nil pass0 rfl GB.m (pa_cons (pv 1) (pa_cons pe_str pa_nil))))) pss_nil)))))), ?_⟩
      exact ⟨_, rfl, x, .dk, rfl, hx, fun H1 S1 => ⟨_, rfl, iteT ⟨_, rfl, mkO_of2 ((k1 "row" (rowW_row rfl)).mono S1)⟩⟩⟩
    | lst xs =>
      obtain ⟨p, rfl, hp⟩ := hx
      refine ⟨_, (pss_cons 
  (ps_if (pt_not (pt_val (pcal GS hr pass0 (pa_cons (pv 2) pa_nil)))) (pss_one (ps_raise rfl (takes_of rfl rfl rfl rfl) (pmk_oex GB.o GB.i GB.t GB.F hr2 GB.b .nil pass0 rfl GB.m (pa_cons (pv 1) (pa_cons pe_str pa_nil))))) pss_nil) (pss_cons 
  (ps_if (pt_cmpR op_ne (pe_callB call_len_seq (by rfl) nl PySem.boot_len (pa_cons (pv 2) pa_nil)) (pv 3) (nomark _)) (pss_one (ps_raise rfl (takes_of rfl rfl rfl rfl) (pmk_oex GB.o GB.i GB.t GB.F hr2 GB.b .nil pass0 rfl GB.m (pa_cons (pv 1) (pa_cons pe_str pa_nil))))) pss_nil) (pss_one 
  (ps_for (passes_of rfl) rfl (pi_list (pv 2)) (pg_name (i := 4) sc_check_row.nd rfl (Or.inl rfl)) (pss_one 
    (ps_if (pt_not (pt_val (pe_meth (pv 0) T.cl GH.M GH.F hr2 GH.b .nil pass0 (pa_cons (pv 4) pa_nil)))) (pss_one (ps_raise rfl (takes_of rfl rfl rfl rfl) (pmk_oex GB.o GB.i GB.t GB.F hr2 GB.b .nil pass0 rfl GB.m (pa_cons (pv 1) (pa_cons pe_str pa_nil))))) pss_nil)))))), ?_⟩
      refine ⟨_, rfl, _, .lst xs, rfl, ⟨p, rfl, hp⟩, fun H1 S1 => ⟨_, rfl, iteF ?_⟩⟩
      have h1 := S1 _ _ hp
      have hT1 := hT.keep S1
      have kn1 : Known H1 xs := kn.keep S1
      obtain ⟨dx, tt, hx1, ht1⟩ := id hT1
      refine ⟨_, rfl, p, xs, rfl, .inl (SqL.of h1), _, rfl, rfl, _, rfl, ?_⟩
      by_cases c : xs.length = n
      case neg => exact if_tr (by simp; omega) ⟨_, rfl, mkO_of2 ((k1 "length" (rowW_length (s := .lst xs) rfl c)).mono S1)⟩
      refine if_fa (by simp [c]) ⟨_, rfl, p, rfl, ⟨_, SqL.of h1⟩, for_list (K := K) (a := p) (xs := xs) (fun i σ H' => ∃ v4 : Option V, σ = [some (.ref t), some (.int (j : Nat)), some (.ref p), some (.int (n : Nat)), v4] ∧ H' = H1 ∧ ∀ a y, a < i → xs[a]? = some y → wholeB y 0 ((ns.length : Nat) - 1) = true)
        ⟨none, rfl, rfl, fun a y ha => absurd ha (Nat.not_lt_zero a)⟩ (fun i σ H' _ ⟨_, _, e, _⟩ => by rw [e]; exact SqL.of h1) ?_ ?_⟩
      · rintro i y σ H' hy ⟨v4, rfl, rfl, hb⟩
        have hym := List.mem_of_getElem? hy
        obtain ⟨sy, isy⟩ := kn1 y hym
        refine ⟨_, rfl, t, dx, _, rfl, hx1, tf_no _ _ (by decide +kernel) (by decide +kernel), _, rfl, t, ns, y, sy, rfl, hT1, isy, _, rfl, ?_⟩
        cases e : tieB ns y with
        | true =>
          refine iteF ⟨_, rfl, rfl, fun a z ha hz => ?_⟩
          rcases Nat.lt_or_ge a i with hai | hai
          · exact hb a z hai hz
          · obtain rfl : a = i := by omega
            rw [hy] at hz
            rw [← Option.some.inj hz]
            exact e
        | false => exact iteT ⟨_, rfl, mkO_of2 ((k1 "tie" (rowW_tie (s := .lst xs) rfl c hym e)).mono S1)⟩
      · rintro σ H' ⟨v4, rfl, rfl, hb⟩
        refine k2 (rowW_none (s := .lst xs) rfl c fun y hy => ?_) _ S1
        obtain ⟨a, ha⟩ := List.getElem?_of_mem hy
        exact hb a y (List.getElem?_eq_some_iff.mp ha).1 ha
    | tup xs =>
      obtain ⟨p, rfl, hp⟩ := hx
      refine ⟨_, (pss_cons 
  (ps_if (pt_not (pt_val (pcal GS hr pass0 (pa_cons (pv 2) pa_nil)))) (pss_one (ps_raise rfl (takes_of rfl rfl rfl rfl) (pmk_oex GB.o GB.i GB.t GB.F hr2 GB.b .nil pass0 rfl GB.m (pa_cons (pv 1) (pa_cons pe_str pa_nil))))) pss_nil) (pss_cons 
  (ps_if (pt_cmpR op_ne (pe_callB call_len_seq (by rfl) nl PySem.boot_len (pa_cons (pv 2) pa_nil)) (pv 3) (nomark _)) (pss_one (ps_raise rfl (takes_of rfl rfl rfl rfl) (pmk_oex GB.o GB.i GB.t GB.F hr2 GB.b .nil pass0 rfl GB.m (pa_cons (pv 1) (pa_cons pe_str pa_nil))))) pss_nil) (pss_one 
  (ps_for (passes_of rfl) rfl (pi_tup (pv 2)) (pg_name (i := 4) sc_check_row.nd rfl (Or.inl rfl)) (pss_one 
    (ps_if (pt_not (pt_val (pe_meth (pv 0) T.cl GH.M GH.F hr2 GH.b .nil pass0 (pa_cons (pv 4) pa_nil)))) (pss_one (ps_raise rfl (takes_of rfl rfl rfl rfl) (pmk_oex GB.o GB.i GB.t GB.F hr2 GB.b .nil pass0 rfl GB.m (pa_cons (pv 1) (pa_cons pe_str pa_nil))))) pss_nil)))))), ?_⟩
      refine ⟨_, rfl, _, .tup xs, rfl, ⟨p, rfl, hp⟩, fun H1 S1 => ⟨_, rfl, iteF ?_⟩⟩
      have h1 := S1 _ _ hp
      have hT1 := hT.keep S1
      have kn1 : Known H1 xs := kn.keep S1
      obtain ⟨dx, tt, hx1, ht1⟩ := id hT1
      refine ⟨_, rfl, p, xs, rfl, .inr (SqT.of h1), _, rfl, rfl, _, rfl, ?_⟩
      by_cases c : xs.length = n
      case neg => exact if_tr (by simp; omega) ⟨_, rfl, mkO_of2 ((k1 "length" (rowW_length (s := .tup xs) rfl c)).mono S1)⟩
      refine if_fa (by simp [c]) ⟨_, rfl, p, rfl, ⟨_, SqT.of h1⟩, for_tup (K := K) (a := p) (xs := xs) (fun i σ H' => ∃ v4 : Option V, σ = [some (.ref t), some (.int (j : Nat)), some (.ref p), some (.int (n : Nat)), v4] ∧ H' = H1 ∧ ∀ a y, a < i → xs[a]? = some y → wholeB y 0 ((ns.length : Nat) - 1) = true)
        ⟨none, rfl, rfl, fun a y ha => absurd ha (Nat.not_lt_zero a)⟩ (fun i σ H' _ ⟨_, _, e, _⟩ => by rw [e]; exact SqT.of h1) ?_ ?_⟩
      · rintro i y σ H' hy ⟨v4, rfl, rfl, hb⟩
        have hym := List.mem_of_getElem? hy
        obtain ⟨sy, isy⟩ := kn1 y hym
        refine ⟨_, rfl, t, dx, _, rfl, hx1, tf_no _ _ (by decide +kernel) (by decide +kernel), _, rfl, t, ns, y, sy, rfl, hT1, isy, _, rfl, ?_⟩
        cases e : tieB ns y with
        | true =>
          refine iteF ⟨_, rfl, rfl, fun a z ha hz => ?_⟩
          rcases Nat.lt_or_ge a i with hai | hai
          · exact hb a z hai hz
          · obtain rfl : a = i := by omega
            rw [hy] at hz
            rw [← Option.some.inj hz]
            exact e
        | false => exact iteT ⟨_, rfl, mkO_of2 ((k1 "tie" (rowW_tie (s := .tup xs) rfl c hym e)).mono S1)⟩
      · rintro σ H' ⟨v4, rfl, rfl, hb⟩
        refine k2 (rowW_none (s := .tup xs) rfl c fun y hy => ?_) _ S1
        obtain ⟨a, ha⟩ := List.getElem?_of_mem hy
        exact hb a y (List.getElem?_eq_some_iff.mp ha).1 ha
end
end J

set_option Elab.async false
set_option linter.all false
set_option maxRecDepth 100000
set_option maxHeartbeats 4000000
namespace J
open PySem PySem.Spec PyProof.Rows L2
/-! ### a company is judged -/
/-- the first place at which a word is due -/
def scan (f : Nat → Option Str) : Nat → Option (Nat × Str)
  | 0 => none
  | n + 1 => match scan f n with
    | some r => some r
    | none => (f n).map fun w => (n, w)
theorem scan_none {f : Nat → Option Str} : ∀ {n : Nat}, (∀ j, j < n → f j = none) → scan f n = none
  | 0, _ => rfl
  | n + 1, h => by
    have ih := scan_none (n := n) fun j hj => h j (by omega)
    show (match scan f n with | some r => some r | none => (f n).map fun w => (n, w)) = none
    rw [ih, h n (by omega)]
    rfl
theorem scan_some {f : Nat → Option Str} {j : Nat} {w : Str} (h : ∀ i, i < j → f i = none) (e : f j = some w) : ∀ {n : Nat}, j < n → scan f n = some (j, w)
  | 0, hj => absurd hj (Nat.not_lt_zero j)
  | n + 1, hj => by
    show (match scan f n with | some r => some r | none => (f n).map fun w => (n, w)) = some (j, w)
    rcases Nat.lt_or_ge j n with hl | hl
    · rw [scan_some h e hl]
    · obtain rfl : j = n := by omega
      rw [scan_none h, e]
      rfl
/-- the word due at place j of the guests -/
def ordB (gs : List V) (j : Nat) : Bool := match gs[j - 1]?, gs[j]? with
  | some (.int a), some (.int b) => decide (0 < j) && decide (b ≤ a)
  | _, _ => false
def wordC (m : Nat) (gs : List V) (ss : List Sh) (j : Nat) : Option Str :=
  match gs[j]? with
  | none => none
  | some x =>
    if wholeB x 0 1000000000 = true then
      if ordB gs j = true then some "order"
      else match ss[j]? with
        | none => some "row"
        | some s => rowW m j s
    else some "label"
def dueC (m : Nat) (g r : Sh) (ss : List Sh) : Option (Int × Str) :=
  if ((g.isL || g.isT) && (r.isL || r.isT)) = true then
    if (items g).length ≤ 60 then
      match scan (wordC m (items g) ss) (items g).length with
      | some (j, w) => some ((j : Nat), w)
      | none => if (items g).length < (items r).length then some (((items g).length : Nat), "rows") else none
    else some (60, "many")
  else some (0, "sequence")
/-- the shapes of the rows -/
def ShAll (H : Hp) : List V → List Sh → Prop := Paired fun x s => Is H x s ∧ Known H (items s)
theorem ShAll.keep {H H' : Hp} (S : Same H H') : ∀ {xs : List V} {ss : List Sh}, ShAll H xs ss → ShAll H' xs ss
  | _, _, .nil => .nil
  | _, _, .cons h t => .cons ⟨h.1.keep S, h.2.keep S⟩ (ShAll.keep S t)
theorem ShAll.at_ {H : Hp} : ∀ {xs : List V} {ss : List Sh} {j : Nat} {x : V}, ShAll H xs ss → xs[j]? = some x → ∃ s, ss[j]? = some s ∧ Is H x s ∧ Known H (items s)
  | _, _, _, _, .nil, e => by simp at e
  | _, _, 0, _, .cons h _, e => by
    simp at e
    subst e
    exact ⟨_, rfl, h⟩
  | _, _, j + 1, x, .cons _ t, e => by
    obtain ⟨s, a, b⟩ := ShAll.at_ (j := j) (x := x) t (by simpa using e)
    exact ⟨s, by simpa using a, b⟩
theorem ShAll.len {H : Hp} {xs : List V} {ss : List Sh} (h : ShAll H xs ss) : xs.length = ss.length := Paired.length h
theorem due_seq {m : Nat} {g r : Sh} {ss : List Sh} (h : ((g.isL || g.isT) && (r.isL || r.isT)) = false) : dueC m g r ss = some ((0 : Int), ("sequence" : Str)) := by
  unfold dueC
  rw [if_neg (by simp [h])]
theorem due_many {m : Nat} {g r : Sh} {ss : List Sh} (h : ((g.isL || g.isT) && (r.isL || r.isT)) = true) (h2 : 60 < (items g).length) : dueC m g r ss = some ((60 : Int), ("many" : Str)) := by
  unfold dueC
  rw [if_pos h, if_neg (by omega)]
theorem due_word {m : Nat} {g r : Sh} {ss : List Sh} {j : Nat} {u : Str} (h : ((g.isL || g.isT) && (r.isL || r.isT)) = true) (h2 : (items g).length ≤ 60) (hb : ∀ i, i < j → wordC m (items g) ss i = none) (e : wordC m (items g) ss j = some u) (hj : j < (items g).length) :
    dueC m g r ss = some (((j : Nat) : Int), u) := by
  unfold dueC
  rw [if_pos h, if_pos h2, scan_some hb e hj]
theorem due_rows {m : Nat} {g r : Sh} {ss : List Sh} (h : ((g.isL || g.isT) && (r.isL || r.isT)) = true) (h2 : (items g).length ≤ 60) (hb : ∀ i, i < (items g).length → wordC m (items g) ss i = none) (h3 : (items g).length < (items r).length) :
    dueC m g r ss = some ((((items g).length : Nat) : Int), ("rows" : Str)) := by
  unfold dueC
  rw [if_pos h, if_pos h2, scan_none hb]
  show (if (items g).length < (items r).length then _ else _) = _
  rw [if_pos h3]
theorem due_ok {m : Nat} {g r : Sh} {ss : List Sh} (h : ((g.isL || g.isT) && (r.isL || r.isT)) = true) (h2 : (items g).length ≤ 60) (hb : ∀ i, i < (items g).length → wordC m (items g) ss i = none) (h3 : ¬ (items g).length < (items r).length) : dueC m g r ss = none := by
  unfold dueC
  rw [if_pos h, if_pos h2, scan_none hb]
  show (if (items g).length < (items r).length then _ else _) = _
  rw [if_neg h3]
theorem word_label {m j : Nat} {gs : List V} {ss : List Sh} {x : V} (h : gs[j]? = some x) (e : wholeB x 0 1000000000 = false) : wordC m gs ss j = some ("label" : Str) := by
  unfold wordC
  rw [h]
  show (if wholeB x 0 1000000000 = true then _ else _) = _
  rw [if_neg (by simp [e])]
theorem word_order {m j : Nat} {gs : List V} {ss : List Sh} {x : V} (h : gs[j]? = some x) (e : wholeB x 0 1000000000 = true) (o : ordB gs j = true) : wordC m gs ss j = some ("order" : Str) := by
  unfold wordC
  rw [h]
  show (if wholeB x 0 1000000000 = true then _ else _) = _
  rw [if_pos e, if_pos o]
theorem word_norow {m j : Nat} {gs : List V} {ss : List Sh} {x : V} (h : gs[j]? = some x) (e : wholeB x 0 1000000000 = true) (o : ordB gs j = false) (n : ss[j]? = none) : wordC m gs ss j = some ("row" : Str) := by
  unfold wordC
  rw [h]
  show (if wholeB x 0 1000000000 = true then _ else _) = _
  rw [if_pos e, if_neg (by simp [o]), n]
theorem word_row {m j : Nat} {gs : List V} {ss : List Sh} {x : V} {s : Sh} (h : gs[j]? = some x) (e : wholeB x 0 1000000000 = true) (o : ordB gs j = false) (n : ss[j]? = some s) : wordC m gs ss j = rowW m j s := by
  unfold wordC
  rw [h]
  show (if wholeB x 0 1000000000 = true then _ else _) = _
  rw [if_pos e, if_neg (by simp [o]), n]
theorem ord_ints {gs : List V} {j : Nat} {a b : Int} (h1 : gs[j]? = some (.int a)) (h2 : gs[j + 1]? = some (.int b)) : ordB gs (j + 1) = decide (b ≤ a) := by
  unfold ordB
  rw [show j + 1 - 1 = j by omega, h1, h2]
  show (decide (0 < j + 1) && decide (b ≤ a)) = _
  rw [decide_eq_true (by omega), Bool.true_and]
theorem ord_zero {gs : List V} : ordB gs 0 = false := by
  unfold ordB
  split
  · rfl
  · rfl
abbrev s_check_company : Stmt := top 20
theorem sc_check_company : FnScope ["ties", "guests", "rows", "index", "label"] ["ties", "guests", "rows"] (defScope s_check_company) := ⟨rfl, rfl, rfl, by decide +kernel, rfl, by decide +kernel, by decide +kernel⟩
def spCC (C CB : Addr) : Sp := fun vs H Q E => ∃ (t : Addr) (ns : List Int) (g r : V) (sg sr : Sh) (ss : List Sh), vs = [.ref t, g, r] ∧ TiesAt C H t ns ∧ Is H g sg ∧ Known H (items sg) ∧ Is H r sr ∧ ShAll H (items sr) ss ∧ (items sg).length ≤ 1000 ∧
  (∀ i u, dueC ns.length sg sr ss = some (i, u) → Tells2 H CB "index" "what" (.int i) (.str u) E) ∧ (dueC ns.length sg sr ss = none → ∀ H', Same H H' → Q .non H')
section
variable {P : Program} {w : World} {K : PySem.W.Frag} {mg : Str → Option Value} {base : Heap}
theorem ok_check_company {f C CB fS fL fR fI : Addr} {fd fdS fdL fdR fdI : FuncData} (F : Fun K "_check_company" "_check_company" s_check_company f fd) (nl : mg "len" = none) (ne : mg "enumerate" = none) (mG : ∃ t, mg "MOST_GUESTS" = some (.int 60 t))
    (GS : Cal P w K mg base CX0 1 "is_sequence" fS fdS ["thing"] spSeq) (GL : Cal P w K mg base CX0 2 "is_label" fL fdL ["thing"] spLabel) (GR : Cal P w K mg base (L2.CX P w) 3 "_check_row" fR fdR ["ties", "index", "row", "length"] (spRow C CB)) (GB : Ex2 P w K mg base "BadCompany" "index" "what" CB fI fdI ["self", "index", "what"]) :
    FnOk P w K mg base (L2.CX P w) 4 f fd ["ties", "guests", "rows"] (spCC C CB) := by
  obtain ⟨tG, mG⟩ := mG
  refine F.okX sc_check_company (fun vs H Q E h => ?_) (fun cdv A outer s H vs Q E hr h => ?_)
  · obtain ⟨t, ns, g, r, sg, sr, ss, rfl, _⟩ := h
    rfl
  · obtain ⟨t, ns, g, r, sg, sr, ss, rfl, hT, hg, kg, hrr, hs, lg, k1, k2⟩ := h
    have hr2 : Room 2 _ := hr.mono (by decide)
    cases sg with
    | sc u =>
      refine ⟨_, (pss_cons 
  (ps_if (PW.pt (pw_or (pt_not (pt_val (pcal GS hr pass0 (pa_cons (pv 1) pa_nil)))) (pw_or1 (pt_not (pt_val (pcal GS hr pass0 (pa_cons (pv 2) pa_nil))))))) (pss_one (ps_raise rfl (takes_of rfl rfl rfl rfl) (pmk_oex GB.o GB.i GB.t GB.F hr2 GB.b .nil pass0 rfl GB.m (pa_cons pe_int (pa_cons pe_str pa_nil))))) pss_nil) (pss_cons 
  (ps_if (pt_cmpR op_gt (pe_callB call_len_seq (by rfl) nl PySem.boot_len (pa_cons (pv 1) pa_nil)) (pe_glob (v := .int 60) rfl mG ⟨_, rfl⟩) (nomark _)) (pss_one (ps_raise rfl (takes_of rfl rfl rfl rfl) (pmk_oex GB.o GB.i GB.t GB.F hr2 GB.b .nil pass0 rfl GB.m (pa_cons (pe_glob (v := .int 60) rfl mG ⟨_, rfl⟩) (pa_cons pe_str pa_nil))))) pss_nil) (pss_cons 
  (ps_for (passes_of rfl) rfl (pi_enum (by rfl) ne (pa_cons (pv 1) pa_nil)) (pg_tup (by rfl) (pgs_cons (pg_name (i := 3) sc_check_company.nd rfl (Or.inl rfl)) (pgs_cons (pg_name (i := 4) sc_check_company.nd rfl (Or.inl rfl)) pgs_nil))) (pss_cons 
    (ps_if (pt_not (pt_val (pcal GL hr pass0 (pa_cons (pv 4) pa_nil)))) (pss_one (ps_raise rfl (takes_of rfl rfl rfl rfl) (pmk_oex GB.o GB.i GB.t GB.F hr2 GB.b .nil pass0 rfl GB.m (pa_cons (pv 3) (pa_cons pe_str pa_nil))))) pss_nil) (pss_cons 
    (ps_if (PW.pt (pw_and (pt_cmpR op_gt (pv 3) pe_int (nomark _)) (pw_and1 (pt_cmpR op_le (pv 4) (pe_ix ix_list (pv 1) (pe_op op_sub (pv 3) pe_int) (fun _ _ => rfl)) (nomark _))))) (pss_one (ps_raise rfl (takes_of rfl rfl rfl rfl) (pmk_oex GB.o GB.i GB.t GB.F hr2 GB.b .nil pass0 rfl GB.m (pa_cons (pv 3) (pa_cons pe_str pa_nil))))) pss_nil) (pss_cons 
    (ps_if (pt_cmpR op_ge (pv 3) (pe_callB call_len_seq (by rfl) nl PySem.boot_len (pa_cons (pv 2) pa_nil)) (nomark _)) (pss_one (ps_raise rfl (takes_of rfl rfl rfl rfl) (pmk_oex GB.o GB.i GB.t GB.F hr2 GB.b .nil pass0 rfl GB.m (pa_cons (pv 3) (pa_cons pe_str pa_nil))))) pss_nil) (pss_one 
    (ps_expr (pcal GR hr (passes_call (takes_of rfl rfl rfl rfl) (fun _ _ _ _ h => h)) (pa_cons (pv 0) (pa_cons (pv 3) (pa_cons (pe_ix ix_list (pv 2) (pv 3) (fun _ _ => rfl)) (pa_cons (pv 3) pa_nil))))))))))) (pss_one 
  (ps_if (pt_cmpR op_gt (pe_callB call_len_seq (by rfl) nl PySem.boot_len (pa_cons (pv 2) pa_nil)) (pe_callB call_len_seq (by rfl) nl PySem.boot_len (pa_cons (pv 1) pa_nil)) (nomark _)) (pss_one (ps_raise rfl (takes_of rfl rfl rfl rfl) (pmk_oex GB.o GB.i GB.t GB.F hr2 GB.b .nil pass0 rfl GB.m (pa_cons (pe_callB call_len_seq (by rfl) nl PySem.boot_len (pa_cons (pv 1) pa_nil)) (pa_cons pe_str pa_nil))))) pss_nil))))), ?_⟩
      exact ⟨_, rfl, g, (.sc u), rfl, hg, fun H1 S1 => ⟨_, rfl, iteT (iteT (mkO_of2 ((k1 0 "sequence" (due_seq rfl)).mono S1)))⟩⟩
    | dk =>
      refine ⟨_, (pss_cons 
  (ps_if (PW.pt (pw_or (pt_not (pt_val (pcal GS hr pass0 (pa_cons (pv 1) pa_nil)))) (pw_or1 (pt_not (pt_val (pcal GS hr pass0 (pa_cons (pv 2) pa_nil))))))) (pss_one (ps_raise rfl (takes_of rfl rfl rfl rfl) (pmk_oex GB.o GB.i GB.t GB.F hr2 GB.b .nil pass0 rfl GB.m (pa_cons pe_int (pa_cons pe_str pa_nil))))) pss_nil) (pss_cons 
  (ps_if (pt_cmpR op_gt (pe_callB call_len_seq (by rfl) nl PySem.boot_len (pa_cons (pv 1) pa_nil)) (pe_glob (v := .int 60) rfl mG ⟨_, rfl⟩) (nomark _)) (pss_one (ps_raise rfl (takes_of rfl rfl rfl rfl) (pmk_oex GB.o GB.i GB.t GB.F hr2 GB.b .nil pass0 rfl GB.m (pa_cons (pe_glob (v := .int 60) rfl mG ⟨_, rfl⟩) (pa_cons pe_str pa_nil))))) pss_nil) (pss_cons 
  (ps_for (passes_of rfl) rfl (pi_enum (by rfl) ne (pa_cons (pv 1) pa_nil)) (pg_tup (by rfl) (pgs_cons (pg_name (i := 3) sc_check_company.nd rfl (Or.inl rfl)) (pgs_cons (pg_name (i := 4) sc_check_company.nd rfl (Or.inl rfl)) pgs_nil))) (pss_cons 
    (ps_if (pt_not (pt_val (pcal GL hr pass0 (pa_cons (pv 4) pa_nil)))) (pss_one (ps_raise rfl (takes_of rfl rfl rfl rfl) (pmk_oex GB.o GB.i GB.t GB.F hr2 GB.b .nil pass0 rfl GB.m (pa_cons (pv 3) (pa_cons pe_str pa_nil))))) pss_nil) (pss_cons 
    (ps_if (PW.pt (pw_and (pt_cmpR op_gt (pv 3) pe_int (nomark _)) (pw_and1 (pt_cmpR op_le (pv 4) (pe_ix ix_list (pv 1) (pe_op op_sub (pv 3) pe_int) (fun _ _ => rfl)) (nomark _))))) (pss_one (ps_raise rfl (takes_of rfl rfl rfl rfl) (pmk_oex GB.o GB.i GB.t GB.F hr2 GB.b .nil pass0 rfl GB.m (pa_cons (pv 3) (pa_cons pe_str pa_nil))))) pss_nil) (pss_cons 
    (ps_if (pt_cmpR op_ge (pv 3) (pe_callB call_len_seq (by rfl) nl PySem.boot_len (pa_cons (pv 2) pa_nil)) (nomark _)) (pss_one (ps_raise rfl (takes_of rfl rfl rfl rfl) (pmk_oex GB.o GB.i GB.t GB.F hr2 GB.b .nil pass0 rfl GB.m (pa_cons (pv 3) (pa_cons pe_str pa_nil))))) pss_nil) (pss_one 
    (ps_expr (pcal GR hr (passes_call (takes_of rfl rfl rfl rfl) (fun _ _ _ _ h => h)) (pa_cons (pv 0) (pa_cons (pv 3) (pa_cons (pe_ix ix_list (pv 2) (pv 3) (fun _ _ => rfl)) (pa_cons (pv 3) pa_nil))))))))))) (pss_one 
  (ps_if (pt_cmpR op_gt (pe_callB call_len_seq (by rfl) nl PySem.boot_len (pa_cons (pv 2) pa_nil)) (pe_callB call_len_seq (by rfl) nl PySem.boot_len (pa_cons (pv 1) pa_nil)) (nomark _)) (pss_one (ps_raise rfl (takes_of rfl rfl rfl rfl) (pmk_oex GB.o GB.i GB.t GB.F hr2 GB.b .nil pass0 rfl GB.m (pa_cons (pe_callB call_len_seq (by rfl) nl PySem.boot_len (pa_cons (pv 1) pa_nil)) (pa_cons pe_str pa_nil))))) pss_nil))))), ?_⟩
      exact ⟨_, rfl, g, .dk, rfl, hg, fun H1 S1 => ⟨_, rfl, iteT (iteT (mkO_of2 ((k1 0 "sequence" (due_seq rfl)).mono S1)))⟩⟩
    | lst gs =>
      cases sr with
      | sc u =>
        obtain ⟨pg, rfl, hp⟩ := hg
        refine ⟨_, (pss_cons 
    (ps_if (PW.pt (pw_or (pt_not (pt_val (pcal GS hr pass0 (pa_cons (pv 1) pa_nil)))) (pw_or1 (pt_not (pt_val (pcal GS hr pass0 (pa_cons (pv 2) pa_nil))))))) (pss_one (ps_raise rfl (takes_of rfl rfl rfl rfl) (pmk_oex GB.o GB.i GB.t GB.F hr2 GB.b .nil pass0 rfl GB.m (pa_cons pe_int (pa_cons pe_str pa_nil))))) pss_nil) (pss_cons 
    (ps_if (pt_cmpR op_gt (pe_callB call_len_seq (by rfl) nl PySem.boot_len (pa_cons (pv 1) pa_nil)) (pe_glob (v := .int 60) rfl mG ⟨_, rfl⟩) (nomark _)) (pss_one (ps_raise rfl (takes_of rfl rfl rfl rfl) (pmk_oex GB.o GB.i GB.t GB.F hr2 GB.b .nil pass0 rfl GB.m (pa_cons (pe_glob (v := .int 60) rfl mG ⟨_, rfl⟩) (pa_cons pe_str pa_nil))))) pss_nil) (pss_cons 
    (ps_for (passes_of rfl) rfl (pi_enum (by rfl) ne (pa_cons (pv 1) pa_nil)) (pg_tup (by rfl) (pgs_cons (pg_name (i := 3) sc_check_company.nd rfl (Or.inl rfl)) (pgs_cons (pg_name (i := 4) sc_check_company.nd rfl (Or.inl rfl)) pgs_nil))) (pss_cons 
      (ps_if (pt_not (pt_val (pcal GL hr pass0 (pa_cons (pv 4) pa_nil)))) (pss_one (ps_raise rfl (takes_of rfl rfl rfl rfl) (pmk_oex GB.o GB.i GB.t GB.F hr2 GB.b .nil pass0 rfl GB.m (pa_cons (pv 3) (pa_cons pe_str pa_nil))))) pss_nil) (pss_cons 
      (ps_if (PW.pt (pw_and (pt_cmpR op_gt (pv 3) pe_int (nomark _)) (pw_and1 (pt_cmpR op_le (pv 4) (pe_ix ix_list (pv 1) (pe_op op_sub (pv 3) pe_int) (fun _ _ => rfl)) (nomark _))))) (pss_one (ps_raise rfl (takes_of rfl rfl rfl rfl) (pmk_oex GB.o GB.i GB.t GB.F hr2 GB.b .nil pass0 rfl GB.m (pa_cons (pv 3) (pa_cons pe_str pa_nil))))) pss_nil) (pss_cons 
      (ps_if (pt_cmpR op_ge (pv 3) (pe_callB call_len_seq (by rfl) nl PySem.boot_len (pa_cons (pv 2) pa_nil)) (nomark _)) (pss_one (ps_raise rfl (takes_of rfl rfl rfl rfl) (pmk_oex GB.o GB.i GB.t GB.F hr2 GB.b .nil pass0 rfl GB.m (pa_cons (pv 3) (pa_cons pe_str pa_nil))))) pss_nil) (pss_one 
      (ps_expr (pcal GR hr (passes_call (takes_of rfl rfl rfl rfl) (fun _ _ _ _ h => h)) (pa_cons (pv 0) (pa_cons (pv 3) (pa_cons (pe_ix ix_list (pv 2) (pv 3) (fun _ _ => rfl)) (pa_cons (pv 3) pa_nil))))))))))) (pss_one 
    (ps_if (pt_cmpR op_gt (pe_callB call_len_seq (by rfl) nl PySem.boot_len (pa_cons (pv 2) pa_nil)) (pe_callB call_len_seq (by rfl) nl PySem.boot_len (pa_cons (pv 1) pa_nil)) (nomark _)) (pss_one (ps_raise rfl (takes_of rfl rfl rfl rfl) (pmk_oex GB.o GB.i GB.t GB.F hr2 GB.b .nil pass0 rfl GB.m (pa_cons (pe_callB call_len_seq (by rfl) nl PySem.boot_len (pa_cons (pv 1) pa_nil)) (pa_cons pe_str pa_nil))))) pss_nil))))), ?_⟩
        exact ⟨_, rfl, _, Sh.lst gs, rfl, ⟨pg, rfl, hp⟩, fun H1 S1 => ⟨_, rfl, iteF ⟨_, rfl, r, (.sc u), rfl, hrr.keep S1, fun H2 S2 => ⟨_, rfl, iteT (mkO_of2 ((k1 0 "sequence" (due_seq rfl)).mono (S1.trans S2)))⟩⟩⟩⟩
      | dk =>
        obtain ⟨pg, rfl, hp⟩ := hg
        refine ⟨_, (pss_cons 
    (ps_if (PW.pt (pw_or (pt_not (pt_val (pcal GS hr pass0 (pa_cons (pv 1) pa_nil)))) (pw_or1 (pt_not (pt_val (pcal GS hr pass0 (pa_cons (pv 2) pa_nil))))))) (pss_one (ps_raise rfl (takes_of rfl rfl rfl rfl) (pmk_oex GB.o GB.i GB.t GB.F hr2 GB.b .nil pass0 rfl GB.m (pa_cons pe_int (pa_cons pe_str pa_nil))))) pss_nil) (pss_cons 
    (ps_if (pt_cmpR op_gt (pe_callB call_len_seq (by rfl) nl PySem.boot_len (pa_cons (pv 1) pa_nil)) (pe_glob (v := .int 60) rfl mG ⟨_, rfl⟩) (nomark _)) (pss_one (ps_raise rfl (takes_of rfl rfl rfl rfl) (pmk_oex GB.o GB.i GB.t GB.F hr2 GB.b .nil pass0 rfl GB.m (pa_cons (pe_glob (v := .int 60) rfl mG ⟨_, rfl⟩) (pa_cons pe_str pa_nil))))) pss_nil) (pss_cons 
    (ps_for (passes_of rfl) rfl (pi_enum (by rfl) ne (pa_cons (pv 1) pa_nil)) (pg_tup (by rfl) (pgs_cons (pg_name (i := 3) sc_check_company.nd rfl (Or.inl rfl)) (pgs_cons (pg_name (i := 4) sc_check_company.nd rfl (Or.inl rfl)) pgs_nil))) (pss_cons 
      (ps_if (pt_not (pt_val (pcal GL hr pass0 (pa_cons (pv 4) pa_nil)))) (pss_one (ps_raise rfl (takes_of rfl rfl rfl rfl) (pmk_oex GB.o GB.i GB.t GB.F hr2 GB.b .nil pass0 rfl GB.m (pa_cons (pv 3) (pa_cons pe_str pa_nil))))) pss_nil) (pss_cons 
      (ps_if (PW.pt (pw_and (pt_cmpR op_gt (pv 3) pe_int (nomark _)) (pw_and1 (pt_cmpR op_le (pv 4) (pe_ix ix_list (pv 1) (pe_op op_sub (pv 3) pe_int) (fun _ _ => rfl)) (nomark _))))) (pss_one (ps_raise rfl (takes_of rfl rfl rfl rfl) (pmk_oex GB.o GB.i GB.t GB.F hr2 GB.b .nil pass0 rfl GB.m (pa_cons (pv 3) (pa_cons pe_str pa_nil))))) pss_nil) (pss_cons 
      (ps_if (pt_cmpR op_ge (pv 3) (pe_callB call_len_seq (by rfl) nl PySem.boot_len (pa_cons (pv 2) pa_nil)) (nomark _)) (pss_one (ps_raise rfl (takes_of rfl rfl rfl rfl) (pmk_oex GB.o GB.i GB.t GB.F hr2 GB.b .nil pass0 rfl GB.m (pa_cons (pv 3) (pa_cons pe_str pa_nil))))) pss_nil) (pss_one 
      (ps_expr (pcal GR hr (passes_call (takes_of rfl rfl rfl rfl) (fun _ _ _ _ h => h)) (pa_cons (pv 0) (pa_cons (pv 3) (pa_cons (pe_ix ix_list (pv 2) (pv 3) (fun _ _ => rfl)) (pa_cons (pv 3) pa_nil))))))))))) (pss_one 
    (ps_if (pt_cmpR op_gt (pe_callB call_len_seq (by rfl) nl PySem.boot_len (pa_cons (pv 2) pa_nil)) (pe_callB call_len_seq (by rfl) nl PySem.boot_len (pa_cons (pv 1) pa_nil)) (nomark _)) (pss_one (ps_raise rfl (takes_of rfl rfl rfl rfl) (pmk_oex GB.o GB.i GB.t GB.F hr2 GB.b .nil pass0 rfl GB.m (pa_cons (pe_callB call_len_seq (by rfl) nl PySem.boot_len (pa_cons (pv 1) pa_nil)) (pa_cons pe_str pa_nil))))) pss_nil))))), ?_⟩
        exact ⟨_, rfl, _, Sh.lst gs, rfl, ⟨pg, rfl, hp⟩, fun H1 S1 => ⟨_, rfl, iteF ⟨_, rfl, r, .dk, rfl, hrr.keep S1, fun H2 S2 => ⟨_, rfl, iteT (mkO_of2 ((k1 0 "sequence" (due_seq rfl)).mono (S1.trans S2)))⟩⟩⟩⟩
      | lst rs =>
        obtain ⟨pg, rfl, hp⟩ := hg
        obtain ⟨pr, rfl, hq⟩ := hrr
        have both : (((Sh.lst gs).isL || (Sh.lst gs).isT) && ((Sh.lst rs).isL || (Sh.lst rs).isT)) = true := rfl
        refine ⟨_, (pss_cons 
    (ps_if (PW.pt (pw_or (pt_not (pt_val (pcal GS hr pass0 (pa_cons (pv 1) pa_nil)))) (pw_or1 (pt_not (pt_val (pcal GS hr pass0 (pa_cons (pv 2) pa_nil))))))) (pss_one (ps_raise rfl (takes_of rfl rfl rfl rfl) (pmk_oex GB.o GB.i GB.t GB.F hr2 GB.b .nil pass0 rfl GB.m (pa_cons pe_int (pa_cons pe_str pa_nil))))) pss_nil) (pss_cons 
    (ps_if (pt_cmpR op_gt (pe_callB call_len_seq (by rfl) nl PySem.boot_len (pa_cons (pv 1) pa_nil)) (pe_glob (v := .int 60) rfl mG ⟨_, rfl⟩) (nomark _)) (pss_one (ps_raise rfl (takes_of rfl rfl rfl rfl) (pmk_oex GB.o GB.i GB.t GB.F hr2 GB.b .nil pass0 rfl GB.m (pa_cons (pe_glob (v := .int 60) rfl mG ⟨_, rfl⟩) (pa_cons pe_str pa_nil))))) pss_nil) (pss_cons 
    (ps_for (passes_of rfl) rfl (pi_enum (by rfl) ne (pa_cons (pv 1) pa_nil)) (pg_tup (by rfl) (pgs_cons (pg_name (i := 3) sc_check_company.nd rfl (Or.inl rfl)) (pgs_cons (pg_name (i := 4) sc_check_company.nd rfl (Or.inl rfl)) pgs_nil))) (pss_cons 
      (ps_if (pt_not (pt_val (pcal GL hr pass0 (pa_cons (pv 4) pa_nil)))) (pss_one (ps_raise rfl (takes_of rfl rfl rfl rfl) (pmk_oex GB.o GB.i GB.t GB.F hr2 GB.b .nil pass0 rfl GB.m (pa_cons (pv 3) (pa_cons pe_str pa_nil))))) pss_nil) (pss_cons 
      (ps_if (PW.pt (pw_and (pt_cmpR op_gt (pv 3) pe_int (nomark _)) (pw_and1 (pt_cmpR op_le (pv 4) (pe_ix ix_list (pv 1) (pe_op op_sub (pv 3) pe_int) (fun _ _ => rfl)) (nomark _))))) (pss_one (ps_raise rfl (takes_of rfl rfl rfl rfl) (pmk_oex GB.o GB.i GB.t GB.F hr2 GB.b .nil pass0 rfl GB.m (pa_cons (pv 3) (pa_cons pe_str pa_nil))))) pss_nil) (pss_cons 
      (ps_if (pt_cmpR op_ge (pv 3) (pe_callB call_len_seq (by rfl) nl PySem.boot_len (pa_cons (pv 2) pa_nil)) (nomark _)) (pss_one (ps_raise rfl (takes_of rfl rfl rfl rfl) (pmk_oex GB.o GB.i GB.t GB.F hr2 GB.b .nil pass0 rfl GB.m (pa_cons (pv 3) (pa_cons pe_str pa_nil))))) pss_nil) (pss_one 
      (ps_expr (pcal GR hr (passes_call (takes_of rfl rfl rfl rfl) (fun _ _ _ _ h => h)) (pa_cons (pv 0) (pa_cons (pv 3) (pa_cons (pe_ix ix_list (pv 2) (pv 3) (fun _ _ => rfl)) (pa_cons (pv 3) pa_nil))))))))))) (pss_one 
    (ps_if (pt_cmpR op_gt (pe_callB call_len_seq (by rfl) nl PySem.boot_len (pa_cons (pv 2) pa_nil)) (pe_callB call_len_seq (by rfl) nl PySem.boot_len (pa_cons (pv 1) pa_nil)) (nomark _)) (pss_one (ps_raise rfl (takes_of rfl rfl rfl rfl) (pmk_oex GB.o GB.i GB.t GB.F hr2 GB.b .nil pass0 rfl GB.m (pa_cons (pe_callB call_len_seq (by rfl) nl PySem.boot_len (pa_cons (pv 1) pa_nil)) (pa_cons pe_str pa_nil))))) pss_nil))))), ?_⟩
        refine ⟨_, rfl, _, Sh.lst gs, rfl, ⟨pg, rfl, hp⟩, fun H1 S1 => ⟨_, rfl, iteF ⟨_, rfl, _, Sh.lst rs, rfl, ⟨pr, rfl, S1 _ _ hq⟩, fun H2 S2' => ⟨_, rfl, iteF ?_⟩⟩⟩⟩
        have S2 := S1.trans S2'
        have eg := S2 _ _ hp
        have er := S2 _ _ hq
        refine ⟨_, rfl, pg, gs, rfl, .inl (SqL.of eg), _, _, rfl, rfl, _, rfl, ?_⟩
        refine ifD (fun c => mkO_of2 ((k1 60 "many" (due_many both (by show 60 < gs.length; omega))).mono S2)) (fun c => ?_)
        have c60 : gs.length ≤ 60 := by omega
        have rl : rs.length = ss.length := hs.len
        refine ⟨_, rfl, pg, gs, rfl, SqL.of eg, for_enum (K := K) (a := pg) (xs := gs) (fun i σ H' => ∃ v3 v4 : Option V, σ = [some (.ref t), some (.ref pg), some (.ref pr), v3, v4] ∧ Same H2 H' ∧ ∀ a, a < i → wordC ns.length gs ss a = none)
          ⟨none, none, rfl, Same.refl _, fun a ha => absurd ha (Nat.not_lt_zero a)⟩ (fun i σ H' _ ⟨_, _, _, S, _⟩ => SqL.of (S _ _ eg)) ?_ ?_⟩
        · rintro i x σ H' T hx ⟨v3, v4, rfl, S3, hb⟩ hT0
          have hi : i < gs.length := (List.getElem?_eq_some_iff.mp hx).1
          have S4 : Same H2 (upd H' T (.tup [.int (i : Nat), x])) := S3.trans (new_same hT0)
          refine ⟨T, _, rfl, SqT.of upd_same, rfl, _, _, rfl, _, _, rfl, rfl, ?_⟩
          generalize upd H' T (.tup [.int (i : Nat), x]) = H4 at S4
          have eg4 := S4 _ _ eg
          have er4 := S4 _ _ er
          have SA := S2.trans S4
          obtain ⟨sx, isx⟩ := (kg.keep SA) x (List.mem_of_getElem? hx)
          refine ⟨_, rfl, x, sx, rfl, isx, _, rfl, ?_⟩
          cases e : wholeB x 0 1000000000 with
          | false => exact iteT ⟨_, rfl, mkO_of2 ((k1 (i : Nat) "label" (due_word both c60 hb (word_label hx e) hi)).mono SA)⟩
          | true =>
            obtain ⟨b, rfl, _, _⟩ := whole_int e
            refine iteF ⟨_, rfl, _, _, rfl, rfl, _, rfl, ?_⟩
            cases i with
            | zero =>
              refine ifD (fun c => absurd c (by decide)) (fun _ => ?_)
              have o : ordB gs 0 = false := ord_zero
              refine ⟨_, rfl, _, rfl, pr, rs, rfl, .inl (SqL.of er4), _, _, rfl, rfl, _, rfl, ?_⟩
              refine ifD (fun c => ⟨_, rfl, mkO_of2 ((k1 ((0 : Nat) : Int) "row" (due_word both c60 hb (word_norow hx e o (List.getElem?_eq_none_iff.mpr (by omega))) hi)).mono SA)⟩) (fun c => ?_)
              obtain ⟨z, hz⟩ : ∃ z, rs[0]? = some z := ⟨rs[0]'(by omega), List.getElem?_eq_getElem (by omega)⟩
              obtain ⟨sz, esz, isz, knz⟩ := (hs.keep SA).at_ hz
              refine ⟨_, rfl, _, rfl, _, rfl, _, rfl, _, _, _, _, rfl, rfl, SqL.of er4, at_of (j := 0) (v := z) rfl hz, _, rfl, t, ns, 0, 0, z, sz, rfl, hT.keep SA, isz, knz, fun u hu => (k1 ((0 : Nat) : Int) u (due_word both c60 hb ((word_row hx e o esz).trans hu) hi)).mono SA, fun hn H5 S5 => ⟨_, _, rfl, S4.trans S5, fun a ha => ?_⟩⟩
              rcases Nat.lt_or_ge a (0) with ha2 | ha2
              · exact hb a ha2
              · obtain rfl : a = 0 := by omega
                rw [word_row hx e o esz]
                exact hn
            | succ i =>
              refine ifD (fun _ => ?_) (fun c => absurd (show (0 : Int) < ((i + 1 : Nat) : Int) by omega) c)
              obtain ⟨y, hy⟩ : ∃ y, gs[i]? = some y := ⟨gs[i], List.getElem?_eq_getElem (by omega)⟩
              have wi : wholeB y 0 1000000000 = true := by
                cases ey : wholeB y 0 1000000000 with
                | true => rfl
                | false =>
                  have := hb i (by omega)
                  rw [word_label hy ey] at this
                  cases this
              obtain ⟨a, rfl, _, _⟩ := whole_int wi
              have oo := ord_ints hy hx
              refine ⟨_, rfl, _, rfl, _, rfl, _, _, rfl, rfl, _, _, _, _, rfl, rfl, SqL.of eg4, at_of (j := i) (v := .int a) (by omega) hy, _, _, rfl, rfl, _, rfl, ?_⟩
              refine ifD (fun c => ⟨_, rfl, mkO_of2 ((k1 ((i + 1 : Nat) : Int) "order" (due_word both c60 hb (word_order hx e (oo.trans (decide_eq_true c))) hi)).mono SA)⟩) (fun c => ?_)
              have o : ordB gs (i + 1) = false := by
                rw [oo]
                exact decide_eq_false c
              refine ⟨_, rfl, _, rfl, pr, rs, rfl, .inl (SqL.of er4), _, _, rfl, rfl, _, rfl, ?_⟩
              refine ifD (fun c => ⟨_, rfl, mkO_of2 ((k1 (((i + 1) : Nat) : Int) "row" (due_word both c60 hb (word_norow hx e o (List.getElem?_eq_none_iff.mpr (by omega))) hi)).mono SA)⟩) (fun c => ?_)
              obtain ⟨z, hz⟩ : ∃ z, rs[(i + 1)]? = some z := ⟨rs[(i + 1)]'(by omega), List.getElem?_eq_getElem (by omega)⟩
              obtain ⟨sz, esz, isz, knz⟩ := (hs.keep SA).at_ hz
              refine ⟨_, rfl, _, rfl, _, rfl, _, rfl, _, _, _, _, rfl, rfl, SqL.of er4, at_of (j := (i + 1)) (v := z) rfl hz, _, rfl, t, ns, (i + 1), (i + 1), z, sz, rfl, hT.keep SA, isz, knz, fun u hu => (k1 (((i + 1) : Nat) : Int) u (due_word both c60 hb ((word_row hx e o esz).trans hu) hi)).mono SA, fun hn H5 S5 => ⟨_, _, rfl, S4.trans S5, fun a ha => ?_⟩⟩
              rcases Nat.lt_or_ge a ((i + 1)) with ha2 | ha2
              · exact hb a ha2
              · obtain rfl : a = (i + 1) := by omega
                rw [word_row hx e o esz]
                exact hn
        · rintro σ H' ⟨v3, v4, rfl, S3, hb⟩
          have eg3 := S3 _ _ eg
          have er3 := S3 _ _ er
          refine ⟨_, rfl, pr, rs, rfl, .inl (SqL.of er3), _, rfl, pg, gs, rfl, .inl (SqL.of eg3), _, _, rfl, rfl, _, rfl, ?_⟩
          refine ifD (fun c => ⟨_, rfl, pg, gs, rfl, .inl (SqL.of eg3), mkO_of2 ((k1 _ "rows" (due_rows both c60 hb (by show gs.length < rs.length; omega))).mono (S2.trans S3))⟩) (fun c => ?_)
          exact k2 (due_ok both c60 hb (by show ¬ gs.length < rs.length; omega)) _ (S2.trans S3)
      | tup rs =>
        obtain ⟨pg, rfl, hp⟩ := hg
        obtain ⟨pr, rfl, hq⟩ := hrr
        have both : (((Sh.lst gs).isL || (Sh.lst gs).isT) && ((Sh.tup rs).isL || (Sh.tup rs).isT)) = true := rfl
        refine ⟨_, (pss_cons 
    (ps_if (PW.pt (pw_or (pt_not (pt_val (pcal GS hr pass0 (pa_cons (pv 1) pa_nil)))) (pw_or1 (pt_not (pt_val (pcal GS hr pass0 (pa_cons (pv 2) pa_nil))))))) (pss_one (ps_raise rfl (takes_of rfl rfl rfl rfl) (pmk_oex GB.o GB.i GB.t GB.F hr2 GB.b .nil pass0 rfl GB.m (pa_cons pe_int (pa_cons pe_str pa_nil))))) pss_nil) (pss_cons 
    (ps_if (pt_cmpR op_gt (pe_callB call_len_seq (by rfl) nl PySem.boot_len (pa_cons (pv 1) pa_nil)) (pe_glob (v := .int 60) rfl mG ⟨_, rfl⟩) (nomark _)) (pss_one (ps_raise rfl (takes_of rfl rfl rfl rfl) (pmk_oex GB.o GB.i GB.t GB.F hr2 GB.b .nil pass0 rfl GB.m (pa_cons (pe_glob (v := .int 60) rfl mG ⟨_, rfl⟩) (pa_cons pe_str pa_nil))))) pss_nil) (pss_cons 
    (ps_for (passes_of rfl) rfl (pi_enum (by rfl) ne (pa_cons (pv 1) pa_nil)) (pg_tup (by rfl) (pgs_cons (pg_name (i := 3) sc_check_company.nd rfl (Or.inl rfl)) (pgs_cons (pg_name (i := 4) sc_check_company.nd rfl (Or.inl rfl)) pgs_nil))) (pss_cons 
      (ps_if (pt_not (pt_val (pcal GL hr pass0 (pa_cons (pv 4) pa_nil)))) (pss_one (ps_raise rfl (takes_of rfl rfl rfl rfl) (pmk_oex GB.o GB.i GB.t GB.F hr2 GB.b .nil pass0 rfl GB.m (pa_cons (pv 3) (pa_cons pe_str pa_nil))))) pss_nil) (pss_cons 
      (ps_if (PW.pt (pw_and (pt_cmpR op_gt (pv 3) pe_int (nomark _)) (pw_and1 (pt_cmpR op_le (pv 4) (pe_ix ix_list (pv 1) (pe_op op_sub (pv 3) pe_int) (fun _ _ => rfl)) (nomark _))))) (pss_one (ps_raise rfl (takes_of rfl rfl rfl rfl) (pmk_oex GB.o GB.i GB.t GB.F hr2 GB.b .nil pass0 rfl GB.m (pa_cons (pv 3) (pa_cons pe_str pa_nil))))) pss_nil) (pss_cons 
      (ps_if (pt_cmpR op_ge (pv 3) (pe_callB call_len_seq (by rfl) nl PySem.boot_len (pa_cons (pv 2) pa_nil)) (nomark _)) (pss_one (ps_raise rfl (takes_of rfl rfl rfl rfl) (pmk_oex GB.o GB.i GB.t GB.F hr2 GB.b .nil pass0 rfl GB.m (pa_cons (pv 3) (pa_cons pe_str pa_nil))))) pss_nil) (pss_one 
      (ps_expr (pcal GR hr (passes_call (takes_of rfl rfl rfl rfl) (fun _ _ _ _ h => h)) (pa_cons (pv 0) (pa_cons (pv 3) (pa_cons (pe_ix ix_tup (pv 2) (pv 3) (fun _ _ => rfl)) (pa_cons (pv 3) pa_nil))))))))))) (pss_one 
    (ps_if (pt_cmpR op_gt (pe_callB call_len_seq (by rfl) nl PySem.boot_len (pa_cons (pv 2) pa_nil)) (pe_callB call_len_seq (by rfl) nl PySem.boot_len (pa_cons (pv 1) pa_nil)) (nomark _)) (pss_one (ps_raise rfl (takes_of rfl rfl rfl rfl) (pmk_oex GB.o GB.i GB.t GB.F hr2 GB.b .nil pass0 rfl GB.m (pa_cons (pe_callB call_len_seq (by rfl) nl PySem.boot_len (pa_cons (pv 1) pa_nil)) (pa_cons pe_str pa_nil))))) pss_nil))))), ?_⟩
        refine ⟨_, rfl, _, Sh.lst gs, rfl, ⟨pg, rfl, hp⟩, fun H1 S1 => ⟨_, rfl, iteF ⟨_, rfl, _, Sh.tup rs, rfl, ⟨pr, rfl, S1 _ _ hq⟩, fun H2 S2' => ⟨_, rfl, iteF ?_⟩⟩⟩⟩
        have S2 := S1.trans S2'
        have eg := S2 _ _ hp
        have er := S2 _ _ hq
        refine ⟨_, rfl, pg, gs, rfl, .inl (SqL.of eg), _, _, rfl, rfl, _, rfl, ?_⟩
        refine ifD (fun c => mkO_of2 ((k1 60 "many" (due_many both (by show 60 < gs.length; omega))).mono S2)) (fun c => ?_)
        have c60 : gs.length ≤ 60 := by omega
        have rl : rs.length = ss.length := hs.len
        refine ⟨_, rfl, pg, gs, rfl, SqL.of eg, for_enum (K := K) (a := pg) (xs := gs) (fun i σ H' => ∃ v3 v4 : Option V, σ = [some (.ref t), some (.ref pg), some (.ref pr), v3, v4] ∧ Same H2 H' ∧ ∀ a, a < i → wordC ns.length gs ss a = none)
          ⟨none, none, rfl, Same.refl _, fun a ha => absurd ha (Nat.not_lt_zero a)⟩ (fun i σ H' _ ⟨_, _, _, S, _⟩ => SqL.of (S _ _ eg)) ?_ ?_⟩
        · rintro i x σ H' T hx ⟨v3, v4, rfl, S3, hb⟩ hT0
          have hi : i < gs.length := (List.getElem?_eq_some_iff.mp hx).1
          have S4 : Same H2 (upd H' T (.tup [.int (i : Nat), x])) := S3.trans (new_same hT0)
          refine ⟨T, _, rfl, SqT.of upd_same, rfl, _, _, rfl, _, _, rfl, rfl, ?_⟩
          generalize upd H' T (.tup [.int (i : Nat), x]) = H4 at S4
          have eg4 := S4 _ _ eg
          have er4 := S4 _ _ er
          have SA := S2.trans S4
          obtain ⟨sx, isx⟩ := (kg.keep SA) x (List.mem_of_getElem? hx)
          refine ⟨_, rfl, x, sx, rfl, isx, _, rfl, ?_⟩
          cases e : wholeB x 0 1000000000 with
          | false => exact iteT ⟨_, rfl, mkO_of2 ((k1 (i : Nat) "label" (due_word both c60 hb (word_label hx e) hi)).mono SA)⟩
          | true =>
            obtain ⟨b, rfl, _, _⟩ := whole_int e
            refine iteF ⟨_, rfl, _, _, rfl, rfl, _, rfl, ?_⟩
            cases i with
            | zero =>
              refine ifD (fun c => absurd c (by decide)) (fun _ => ?_)
              have o : ordB gs 0 = false := ord_zero
              refine ⟨_, rfl, _, rfl, pr, rs, rfl, .inr (SqT.of er4), _, _, rfl, rfl, _, rfl, ?_⟩
              refine ifD (fun c => ⟨_, rfl, mkO_of2 ((k1 ((0 : Nat) : Int) "row" (due_word both c60 hb (word_norow hx e o (List.getElem?_eq_none_iff.mpr (by omega))) hi)).mono SA)⟩) (fun c => ?_)
              obtain ⟨z, hz⟩ : ∃ z, rs[0]? = some z := ⟨rs[0]'(by omega), List.getElem?_eq_getElem (by omega)⟩
              obtain ⟨sz, esz, isz, knz⟩ := (hs.keep SA).at_ hz
              refine ⟨_, rfl, _, rfl, _, rfl, _, rfl, _, _, _, _, rfl, rfl, SqT.of er4, at_of (j := 0) (v := z) rfl hz, _, rfl, t, ns, 0, 0, z, sz, rfl, hT.keep SA, isz, knz, fun u hu => (k1 ((0 : Nat) : Int) u (due_word both c60 hb ((word_row hx e o esz).trans hu) hi)).mono SA, fun hn H5 S5 => ⟨_, _, rfl, S4.trans S5, fun a ha => ?_⟩⟩
              rcases Nat.lt_or_ge a (0) with ha2 | ha2
              · exact hb a ha2
              · obtain rfl : a = 0 := by omega
                rw [word_row hx e o esz]
                exact hn
            | succ i =>
              refine ifD (fun _ => ?_) (fun c => absurd (show (0 : Int) < ((i + 1 : Nat) : Int) by omega) c)
              obtain ⟨y, hy⟩ : ∃ y, gs[i]? = some y := ⟨gs[i], List.getElem?_eq_getElem (by omega)⟩
              have wi : wholeB y 0 1000000000 = true := by
                cases ey : wholeB y 0 1000000000 with
                | true => rfl
                | false =>
                  have := hb i (by omega)
                  rw [word_label hy ey] at this
                  cases this
              obtain ⟨a, rfl, _, _⟩ := whole_int wi
              have oo := ord_ints hy hx
              refine ⟨_, rfl, _, rfl, _, rfl, _, _, rfl, rfl, _, _, _, _, rfl, rfl, SqL.of eg4, at_of (j := i) (v := .int a) (by omega) hy, _, _, rfl, rfl, _, rfl, ?_⟩
              refine ifD (fun c => ⟨_, rfl, mkO_of2 ((k1 ((i + 1 : Nat) : Int) "order" (due_word both c60 hb (word_order hx e (oo.trans (decide_eq_true c))) hi)).mono SA)⟩) (fun c => ?_)
              have o : ordB gs (i + 1) = false := by
                rw [oo]
                exact decide_eq_false c
              refine ⟨_, rfl, _, rfl, pr, rs, rfl, .inr (SqT.of er4), _, _, rfl, rfl, _, rfl, ?_⟩
              refine ifD (fun c => ⟨_, rfl, mkO_of2 ((k1 (((i + 1) : Nat) : Int) "row" (due_word both c60 hb (word_norow hx e o (List.getElem?_eq_none_iff.mpr (by omega))) hi)).mono SA)⟩) (fun c => ?_)
              obtain ⟨z, hz⟩ : ∃ z, rs[(i + 1)]? = some z := ⟨rs[(i + 1)]'(by omega), List.getElem?_eq_getElem (by omega)⟩
              obtain ⟨sz, esz, isz, knz⟩ := (hs.keep SA).at_ hz
              refine ⟨_, rfl, _, rfl, _, rfl, _, rfl, _, _, _, _, rfl, rfl, SqT.of er4, at_of (j := (i + 1)) (v := z) rfl hz, _, rfl, t, ns, (i + 1), (i + 1), z, sz, rfl, hT.keep SA, isz, knz, fun u hu => (k1 (((i + 1) : Nat) : Int) u (due_word both c60 hb ((word_row hx e o esz).trans hu) hi)).mono SA, fun hn H5 S5 => ⟨_, _, rfl, S4.trans S5, fun a ha => ?_⟩⟩
              rcases Nat.lt_or_ge a ((i + 1)) with ha2 | ha2
              · exact hb a ha2
              · obtain rfl : a = (i + 1) := by omega
                rw [word_row hx e o esz]
                exact hn
        · rintro σ H' ⟨v3, v4, rfl, S3, hb⟩
          have eg3 := S3 _ _ eg
          have er3 := S3 _ _ er
          refine ⟨_, rfl, pr, rs, rfl, .inr (SqT.of er3), _, rfl, pg, gs, rfl, .inl (SqL.of eg3), _, _, rfl, rfl, _, rfl, ?_⟩
          refine ifD (fun c => ⟨_, rfl, pg, gs, rfl, .inl (SqL.of eg3), mkO_of2 ((k1 _ "rows" (due_rows both c60 hb (by show gs.length < rs.length; omega))).mono (S2.trans S3))⟩) (fun c => ?_)
          exact k2 (due_ok both c60 hb (by show ¬ gs.length < rs.length; omega)) _ (S2.trans S3)
    | tup gs =>
      cases sr with
      | sc u =>
        obtain ⟨pg, rfl, hp⟩ := hg
        refine ⟨_, (pss_cons 
    (ps_if (PW.pt (pw_or (pt_not (pt_val (pcal GS hr pass0 (pa_cons (pv 1) pa_nil)))) (pw_or1 (pt_not (pt_val (pcal GS hr pass0 (pa_cons (pv 2) pa_nil))))))) (pss_one (ps_raise rfl (takes_of rfl rfl rfl rfl) (pmk_oex GB.o GB.i GB.t GB.F hr2 GB.b .nil pass0 rfl GB.m (pa_cons pe_int (pa_cons pe_str pa_nil))))) pss_nil) (pss_cons 
    (ps_if (pt_cmpR op_gt (pe_callB call_len_seq (by rfl) nl PySem.boot_len (pa_cons (pv 1) pa_nil)) (pe_glob (v := .int 60) rfl mG ⟨_, rfl⟩) (nomark _)) (pss_one (ps_raise rfl (takes_of rfl rfl rfl rfl) (pmk_oex GB.o GB.i GB.t GB.F hr2 GB.b .nil pass0 rfl GB.m (pa_cons (pe_glob (v := .int 60) rfl mG ⟨_, rfl⟩) (pa_cons pe_str pa_nil))))) pss_nil) (pss_cons 
    (ps_for (passes_of rfl) rfl (pi_enumT (by rfl) ne (pa_cons (pv 1) pa_nil)) (pg_tup (by rfl) (pgs_cons (pg_name (i := 3) sc_check_company.nd rfl (Or.inl rfl)) (pgs_cons (pg_name (i := 4) sc_check_company.nd rfl (Or.inl rfl)) pgs_nil))) (pss_cons 
      (ps_if (pt_not (pt_val (pcal GL hr pass0 (pa_cons (pv 4) pa_nil)))) (pss_one (ps_raise rfl (takes_of rfl rfl rfl rfl) (pmk_oex GB.o GB.i GB.t GB.F hr2 GB.b .nil pass0 rfl GB.m (pa_cons (pv 3) (pa_cons pe_str pa_nil))))) pss_nil) (pss_cons 
      (ps_if (PW.pt (pw_and (pt_cmpR op_gt (pv 3) pe_int (nomark _)) (pw_and1 (pt_cmpR op_le (pv 4) (pe_ix ix_tup (pv 1) (pe_op op_sub (pv 3) pe_int) (fun _ _ => rfl)) (nomark _))))) (pss_one (ps_raise rfl (takes_of rfl rfl rfl rfl) (pmk_oex GB.o GB.i GB.t GB.F hr2 GB.b .nil pass0 rfl GB.m (pa_cons (pv 3) (pa_cons pe_str pa_nil))))) pss_nil) (pss_cons 
      (ps_if (pt_cmpR op_ge (pv 3) (pe_callB call_len_seq (by rfl) nl PySem.boot_len (pa_cons (pv 2) pa_nil)) (nomark _)) (pss_one (ps_raise rfl (takes_of rfl rfl rfl rfl) (pmk_oex GB.o GB.i GB.t GB.F hr2 GB.b .nil pass0 rfl GB.m (pa_cons (pv 3) (pa_cons pe_str pa_nil))))) pss_nil) (pss_one 
      (ps_expr (pcal GR hr (passes_call (takes_of rfl rfl rfl rfl) (fun _ _ _ _ h => h)) (pa_cons (pv 0) (pa_cons (pv 3) (pa_cons (pe_ix ix_list (pv 2) (pv 3) (fun _ _ => rfl)) (pa_cons (pv 3) pa_nil))))))))))) (pss_one 
    (ps_if (pt_cmpR op_gt (pe_callB call_len_seq (by rfl) nl PySem.boot_len (pa_cons (pv 2) pa_nil)) (pe_callB call_len_seq (by rfl) nl PySem.boot_len (pa_cons (pv 1) pa_nil)) (nomark _)) (pss_one (ps_raise rfl (takes_of rfl rfl rfl rfl) (pmk_oex GB.o GB.i GB.t GB.F hr2 GB.b .nil pass0 rfl GB.m (pa_cons (pe_callB call_len_seq (by rfl) nl PySem.boot_len (pa_cons (pv 1) pa_nil)) (pa_cons pe_str pa_nil))))) pss_nil))))), ?_⟩
        exact ⟨_, rfl, _, Sh.tup gs, rfl, ⟨pg, rfl, hp⟩, fun H1 S1 => ⟨_, rfl, iteF ⟨_, rfl, r, (.sc u), rfl, hrr.keep S1, fun H2 S2 => ⟨_, rfl, iteT (mkO_of2 ((k1 0 "sequence" (due_seq rfl)).mono (S1.trans S2)))⟩⟩⟩⟩
      | dk =>
        obtain ⟨pg, rfl, hp⟩ := hg
        refine ⟨_, (pss_cons 
    (ps_if (PW.pt (pw_or (pt_not (pt_val (pcal GS hr pass0 (pa_cons (pv 1) pa_nil)))) (pw_or1 (pt_not (pt_val (pcal GS hr pass0 (pa_cons (pv 2) pa_nil))))))) (pss_one (ps_raise rfl (takes_of rfl rfl rfl rfl) (pmk_oex GB.o GB.i GB.t GB.F hr2 GB.b .nil pass0 rfl GB.m (pa_cons pe_int (pa_cons pe_str pa_nil))))) pss_nil) (pss_cons 
    (ps_if (pt_cmpR op_gt (pe_callB call_len_seq (by rfl) nl PySem.boot_len (pa_cons (pv 1) pa_nil)) (pe_glob (v := .int 60) rfl mG ⟨_, rfl⟩) (nomark _)) (pss_one (ps_raise rfl (takes_of rfl rfl rfl rfl) (pmk_oex GB.o GB.i GB.t GB.F hr2 GB.b .nil pass0 rfl GB.m (pa_cons (pe_glob (v := .int 60) rfl mG ⟨_, rfl⟩) (pa_cons pe_str pa_nil))))) pss_nil) (pss_cons 
    (ps_for (passes_of rfl) rfl (pi_enumT (by rfl) ne (pa_cons (pv 1) pa_nil)) (pg_tup (by rfl) (pgs_cons (pg_name (i := 3) sc_check_company.nd rfl (Or.inl rfl)) (pgs_cons (pg_name (i := 4) sc_check_company.nd rfl (Or.inl rfl)) pgs_nil))) (pss_cons 
      (ps_if (pt_not (pt_val (pcal GL hr pass0 (pa_cons (pv 4) pa_nil)))) (pss_one (ps_raise rfl (takes_of rfl rfl rfl rfl) (pmk_oex GB.o GB.i GB.t GB.F hr2 GB.b .nil pass0 rfl GB.m (pa_cons (pv 3) (pa_cons pe_str pa_nil))))) pss_nil) (pss_cons 
      (ps_if (PW.pt (pw_and (pt_cmpR op_gt (pv 3) pe_int (nomark _)) (pw_and1 (pt_cmpR op_le (pv 4) (pe_ix ix_tup (pv 1) (pe_op op_sub (pv 3) pe_int) (fun _ _ => rfl)) (nomark _))))) (pss_one (ps_raise rfl (takes_of rfl rfl rfl rfl) (pmk_oex GB.o GB.i GB.t GB.F hr2 GB.b .nil pass0 rfl GB.m (pa_cons (pv 3) (pa_cons pe_str pa_nil))))) pss_nil) (pss_cons 
      (ps_if (pt_cmpR op_ge (pv 3) (pe_callB call_len_seq (by rfl) nl PySem.boot_len (pa_cons (pv 2) pa_nil)) (nomark _)) (pss_one (ps_raise rfl (takes_of rfl rfl rfl rfl) (pmk_oex GB.o GB.i GB.t GB.F hr2 GB.b .nil pass0 rfl GB.m (pa_cons (pv 3) (pa_cons pe_str pa_nil))))) pss_nil) (pss_one 
      (ps_expr (pcal GR hr (passes_call (takes_of rfl rfl rfl rfl) (fun _ _ _ _ h => h)) (pa_cons (pv 0) (pa_cons (pv 3) (pa_cons (pe_ix ix_list (pv 2) (pv 3) (fun _ _ => rfl)) (pa_cons (pv 3) pa_nil))))))))))) (pss_one 
    (ps_if (pt_cmpR op_gt (pe_callB call_len_seq (by rfl) nl PySem.boot_len (pa_cons (pv 2) pa_nil)) (pe_callB call_len_seq (by rfl) nl PySem.boot_len (pa_cons (pv 1) pa_nil)) (nomark _)) (pss_one (ps_raise rfl (takes_of rfl rfl rfl rfl) (pmk_oex GB.o GB.i GB.t GB.F hr2 GB.b .nil pass0 rfl GB.m (pa_cons (pe_callB call_len_seq (by rfl) nl PySem.boot_len (pa_cons (pv 1) pa_nil)) (pa_cons pe_str pa_nil))))) pss_nil))))), ?_⟩
        exact ⟨_, rfl, _, Sh.tup gs, rfl, ⟨pg, rfl, hp⟩, fun H1 S1 => ⟨_, rfl, iteF ⟨_, rfl, r, .dk, rfl, hrr.keep S1, fun H2 S2 => ⟨_, rfl, iteT (mkO_of2 ((k1 0 "sequence" (due_seq rfl)).mono (S1.trans S2)))⟩⟩⟩⟩
      | lst rs =>
        obtain ⟨pg, rfl, hp⟩ := hg
        obtain ⟨pr, rfl, hq⟩ := hrr
        have both : (((Sh.tup gs).isL || (Sh.tup gs).isT) && ((Sh.lst rs).isL || (Sh.lst rs).isT)) = true := rfl
        refine ⟨_, (pss_cons 
    (ps_if (PW.pt (pw_or (pt_not (pt_val (pcal GS hr pass0 (pa_cons (pv 1) pa_nil)))) (pw_or1 (pt_not (pt_val (pcal GS hr pass0 (pa_cons (pv 2) pa_nil))))))) (pss_one (ps_raise rfl (takes_of rfl rfl rfl rfl) (pmk_oex GB.o GB.i GB.t GB.F hr2 GB.b .nil pass0 rfl GB.m (pa_cons pe_int (pa_cons pe_str pa_nil))))) pss_nil) (pss_cons 
    (ps_if (pt_cmpR op_gt (pe_callB call_len_seq (by rfl) nl PySem.boot_len (pa_cons (pv 1) pa_nil)) (pe_glob (v := .int 60) rfl mG ⟨_, rfl⟩) (nomark _)) (pss_one (ps_raise rfl (takes_of rfl rfl rfl rfl) (pmk_oex GB.o GB.i GB.t GB.F hr2 GB.b .nil pass0 rfl GB.m (pa_cons (pe_glob (v := .int 60) rfl mG ⟨_, rfl⟩) (pa_cons pe_str pa_nil))))) pss_nil) (pss_cons 
    (ps_for (passes_of rfl) rfl (pi_enumT (by rfl) ne (pa_cons (pv 1) pa_nil)) (pg_tup (by rfl) (pgs_cons (pg_name (i := 3) sc_check_company.nd rfl (Or.inl rfl)) (pgs_cons (pg_name (i := 4) sc_check_company.nd rfl (Or.inl rfl)) pgs_nil))) (pss_cons 
      (ps_if (pt_not (pt_val (pcal GL hr pass0 (pa_cons (pv 4) pa_nil)))) (pss_one (ps_raise rfl (takes_of rfl rfl rfl rfl) (pmk_oex GB.o GB.i GB.t GB.F hr2 GB.b .nil pass0 rfl GB.m (pa_cons (pv 3) (pa_cons pe_str pa_nil))))) pss_nil) (pss_cons 
      (ps_if (PW.pt (pw_and (pt_cmpR op_gt (pv 3) pe_int (nomark _)) (pw_and1 (pt_cmpR op_le (pv 4) (pe_ix ix_tup (pv 1) (pe_op op_sub (pv 3) pe_int) (fun _ _ => rfl)) (nomark _))))) (pss_one (ps_raise rfl (takes_of rfl rfl rfl rfl) (pmk_oex GB.o GB.i GB.t GB.F hr2 GB.b .nil pass0 rfl GB.m (pa_cons (pv 3) (pa_cons pe_str pa_nil))))) pss_nil) (pss_cons 
      (ps_if (pt_cmpR op_ge (pv 3) (pe_callB call_len_seq (by rfl) nl PySem.boot_len (pa_cons (pv 2) pa_nil)) (nomark _)) (pss_one (ps_raise rfl (takes_of rfl rfl rfl rfl) (pmk_oex GB.o GB.i GB.t GB.F hr2 GB.b .nil pass0 rfl GB.m (pa_cons (pv 3) (pa_cons pe_str pa_nil))))) pss_nil) (pss_one 
      (ps_expr (pcal GR hr (passes_call (takes_of rfl rfl rfl rfl) (fun _ _ _ _ h => h)) (pa_cons (pv 0) (pa_cons (pv 3) (pa_cons (pe_ix ix_list (pv 2) (pv 3) (fun _ _ => rfl)) (pa_cons (pv 3) pa_nil))))))))))) (pss_one 
    (ps_if (pt_cmpR op_gt (pe_callB call_len_seq (by rfl) nl PySem.boot_len (pa_cons (pv 2) pa_nil)) (pe_callB call_len_seq (by rfl) nl PySem.boot_len (pa_cons (pv 1) pa_nil)) (nomark _)) (pss_one (ps_raise rfl (takes_of rfl rfl rfl rfl) (pmk_oex GB.o GB.i GB.t GB.F hr2 GB.b .nil pass0 rfl GB.m (pa_cons (pe_callB call_len_seq (by rfl) nl PySem.boot_len (pa_cons (pv 1) pa_nil)) (pa_cons pe_str pa_nil))))) pss_nil))))), ?_⟩
        refine ⟨_, rfl, _, Sh.tup gs, rfl, ⟨pg, rfl, hp⟩, fun H1 S1 => ⟨_, rfl, iteF ⟨_, rfl, _, Sh.lst rs, rfl, ⟨pr, rfl, S1 _ _ hq⟩, fun H2 S2' => ⟨_, rfl, iteF ?_⟩⟩⟩⟩
        have S2 := S1.trans S2'
        have eg := S2 _ _ hp
        have er := S2 _ _ hq
        refine ⟨_, rfl, pg, gs, rfl, .inr (SqT.of eg), _, _, rfl, rfl, _, rfl, ?_⟩
        refine ifD (fun c => mkO_of2 ((k1 60 "many" (due_many both (by show 60 < gs.length; omega))).mono S2)) (fun c => ?_)
        have c60 : gs.length ≤ 60 := by omega
        have rl : rs.length = ss.length := hs.len
        refine ⟨_, rfl, pg, gs, rfl, SqT.of eg, for_enumT (K := K) (a := pg) (xs := gs) (fun i σ H' => ∃ v3 v4 : Option V, σ = [some (.ref t), some (.ref pg), some (.ref pr), v3, v4] ∧ Same H2 H' ∧ ∀ a, a < i → wordC ns.length gs ss a = none)
          ⟨none, none, rfl, Same.refl _, fun a ha => absurd ha (Nat.not_lt_zero a)⟩ (fun i σ H' _ ⟨_, _, _, S, _⟩ => SqT.of (S _ _ eg)) ?_ ?_⟩
        · rintro i x σ H' T hx ⟨v3, v4, rfl, S3, hb⟩ hT0
          have hi : i < gs.length := (List.getElem?_eq_some_iff.mp hx).1
          have S4 : Same H2 (upd H' T (.tup [.int (i : Nat), x])) := S3.trans (new_same hT0)
          refine ⟨T, _, rfl, SqT.of upd_same, rfl, _, _, rfl, _, _, rfl, rfl, ?_⟩
          generalize upd H' T (.tup [.int (i : Nat), x]) = H4 at S4
          have eg4 := S4 _ _ eg
          have er4 := S4 _ _ er
          have SA := S2.trans S4
          obtain ⟨sx, isx⟩ := (kg.keep SA) x (List.mem_of_getElem? hx)
          refine ⟨_, rfl, x, sx, rfl, isx, _, rfl, ?_⟩
          cases e : wholeB x 0 1000000000 with
          | false => exact iteT ⟨_, rfl, mkO_of2 ((k1 (i : Nat) "label" (due_word both c60 hb (word_label hx e) hi)).mono SA)⟩
          | true =>
            obtain ⟨b, rfl, _, _⟩ := whole_int e
            refine iteF ⟨_, rfl, _, _, rfl, rfl, _, rfl, ?_⟩
            cases i with
            | zero =>
              refine ifD (fun c => absurd c (by decide)) (fun _ => ?_)
              have o : ordB gs 0 = false := ord_zero
              refine ⟨_, rfl, _, rfl, pr, rs, rfl, .inl (SqL.of er4), _, _, rfl, rfl, _, rfl, ?_⟩
              refine ifD (fun c => ⟨_, rfl, mkO_of2 ((k1 ((0 : Nat) : Int) "row" (due_word both c60 hb (word_norow hx e o (List.getElem?_eq_none_iff.mpr (by omega))) hi)).mono SA)⟩) (fun c => ?_)
              obtain ⟨z, hz⟩ : ∃ z, rs[0]? = some z := ⟨rs[0]'(by omega), List.getElem?_eq_getElem (by omega)⟩
              obtain ⟨sz, esz, isz, knz⟩ := (hs.keep SA).at_ hz
              refine ⟨_, rfl, _, rfl, _, rfl, _, rfl, _, _, _, _, rfl, rfl, SqL.of er4, at_of (j := 0) (v := z) rfl hz, _, rfl, t, ns, 0, 0, z, sz, rfl, hT.keep SA, isz, knz, fun u hu => (k1 ((0 : Nat) : Int) u (due_word both c60 hb ((word_row hx e o esz).trans hu) hi)).mono SA, fun hn H5 S5 => ⟨_, _, rfl, S4.trans S5, fun a ha => ?_⟩⟩
              rcases Nat.lt_or_ge a (0) with ha2 | ha2
              · exact hb a ha2
              · obtain rfl : a = 0 := by omega
                rw [word_row hx e o esz]
                exact hn
            | succ i =>
              refine ifD (fun _ => ?_) (fun c => absurd (show (0 : Int) < ((i + 1 : Nat) : Int) by omega) c)
              obtain ⟨y, hy⟩ : ∃ y, gs[i]? = some y := ⟨gs[i], List.getElem?_eq_getElem (by omega)⟩
              have wi : wholeB y 0 1000000000 = true := by
                cases ey : wholeB y 0 1000000000 with
                | true => rfl
                | false =>
                  have := hb i (by omega)
                  rw [word_label hy ey] at this
                  cases this
              obtain ⟨a, rfl, _, _⟩ := whole_int wi
              have oo := ord_ints hy hx
              refine ⟨_, rfl, _, rfl, _, rfl, _, _, rfl, rfl, _, _, _, _, rfl, rfl, SqT.of eg4, at_of (j := i) (v := .int a) (by omega) hy, _, _, rfl, rfl, _, rfl, ?_⟩
              refine ifD (fun c => ⟨_, rfl, mkO_of2 ((k1 ((i + 1 : Nat) : Int) "order" (due_word both c60 hb (word_order hx e (oo.trans (decide_eq_true c))) hi)).mono SA)⟩) (fun c => ?_)
              have o : ordB gs (i + 1) = false := by
                rw [oo]
                exact decide_eq_false c
              refine ⟨_, rfl, _, rfl, pr, rs, rfl, .inl (SqL.of er4), _, _, rfl, rfl, _, rfl, ?_⟩
              refine ifD (fun c => ⟨_, rfl, mkO_of2 ((k1 (((i + 1) : Nat) : Int) "row" (due_word both c60 hb (word_norow hx e o (List.getElem?_eq_none_iff.mpr (by omega))) hi)).mono SA)⟩) (fun c => ?_)
              obtain ⟨z, hz⟩ : ∃ z, rs[(i + 1)]? = some z := ⟨rs[(i + 1)]'(by omega), List.getElem?_eq_getElem (by omega)⟩
              obtain ⟨sz, esz, isz, knz⟩ := (hs.keep SA).at_ hz
              refine ⟨_, rfl, _, rfl, _, rfl, _, rfl, _, _, _, _, rfl, rfl, SqL.of er4, at_of (j := (i + 1)) (v := z) rfl hz, _, rfl, t, ns, (i + 1), (i + 1), z, sz, rfl, hT.keep SA, isz, knz, fun u hu => (k1 (((i + 1) : Nat) : Int) u (due_word both c60 hb ((word_row hx e o esz).trans hu) hi)).mono SA, fun hn H5 S5 => ⟨_, _, rfl, S4.trans S5, fun a ha => ?_⟩⟩
              rcases Nat.lt_or_ge a ((i + 1)) with ha2 | ha2
              · exact hb a ha2
              · obtain rfl : a = (i + 1) := by omega
                rw [word_row hx e o esz]
                exact hn
        · rintro σ H' ⟨v3, v4, rfl, S3, hb⟩
          have eg3 := S3 _ _ eg
          have er3 := S3 _ _ er
          refine ⟨_, rfl, pr, rs, rfl, .inl (SqL.of er3), _, rfl, pg, gs, rfl, .inr (SqT.of eg3), _, _, rfl, rfl, _, rfl, ?_⟩
          refine ifD (fun c => ⟨_, rfl, pg, gs, rfl, .inr (SqT.of eg3), mkO_of2 ((k1 _ "rows" (due_rows both c60 hb (by show gs.length < rs.length; omega))).mono (S2.trans S3))⟩) (fun c => ?_)
          exact k2 (due_ok both c60 hb (by show ¬ gs.length < rs.length; omega)) _ (S2.trans S3)
      | tup rs =>
        obtain ⟨pg, rfl, hp⟩ := hg
        obtain ⟨pr, rfl, hq⟩ := hrr
        have both : (((Sh.tup gs).isL || (Sh.tup gs).isT) && ((Sh.tup rs).isL || (Sh.tup rs).isT)) = true := rfl
        refine ⟨_, (pss_cons 
    (ps_if (PW.pt (pw_or (pt_not (pt_val (pcal GS hr pass0 (pa_cons (pv 1) pa_nil)))) (pw_or1 (pt_not (pt_val (pcal GS hr pass0 (pa_cons (pv 2) pa_nil))))))) (pss_one (ps_raise rfl (takes_of rfl rfl rfl rfl) (pmk_oex GB.o GB.i GB.t GB.F hr2 GB.b .nil pass0 rfl GB.m (pa_cons pe_int (pa_cons pe_str pa_nil))))) pss_nil) (pss_cons 
    (ps_if (pt_cmpR op_gt (pe_callB call_len_seq (by rfl) nl PySem.boot_len (pa_cons (pv 1) pa_nil)) (pe_glob (v := .int 60) rfl mG ⟨_, rfl⟩) (nomark _)) (pss_one (ps_raise rfl (takes_of rfl rfl rfl rfl) (pmk_oex GB.o GB.i GB.t GB.F hr2 GB.b .nil pass0 rfl GB.m (pa_cons (pe_glob (v := .int 60) rfl mG ⟨_, rfl⟩) (pa_cons pe_str pa_nil))))) pss_nil) (pss_cons 
    (ps_for (passes_of rfl) rfl (pi_enumT (by rfl) ne (pa_cons (pv 1) pa_nil)) (pg_tup (by rfl) (pgs_cons (pg_name (i := 3) sc_check_company.nd rfl (Or.inl rfl)) (pgs_cons (pg_name (i := 4) sc_check_company.nd rfl (Or.inl rfl)) pgs_nil))) (pss_cons 
      (ps_if (pt_not (pt_val (pcal GL hr pass0 (pa_cons (pv 4) pa_nil)))) (pss_one (ps_raise rfl (takes_of rfl rfl rfl rfl) (pmk_oex GB.o GB.i GB.t GB.F hr2 GB.b .nil pass0 rfl GB.m (pa_cons (pv 3) (pa_cons pe_str pa_nil))))) pss_nil) (pss_cons 
      (ps_if (PW.pt (pw_and (pt_cmpR op_gt (pv 3) pe_int (nomark _)) (pw_and1 (pt_cmpR op_le (pv 4) (pe_ix ix_tup (pv 1) (pe_op op_sub (pv 3) pe_int) (fun _ _ => rfl)) (nomark _))))) (pss_one (ps_raise rfl (takes_of rfl rfl rfl rfl) (pmk_oex GB.o GB.i GB.t GB.F hr2 GB.b .nil pass0 rfl GB.m (pa_cons (pv 3) (pa_cons pe_str pa_nil))))) pss_nil) (pss_cons 
      (ps_if (pt_cmpR op_ge (pv 3) (pe_callB call_len_seq (by rfl) nl PySem.boot_len (pa_cons (pv 2) pa_nil)) (nomark _)) (pss_one (ps_raise rfl (takes_of rfl rfl rfl rfl) (pmk_oex GB.o GB.i GB.t GB.F hr2 GB.b .nil pass0 rfl GB.m (pa_cons (pv 3) (pa_cons pe_str pa_nil))))) pss_nil) (pss_one 
      (ps_expr (pcal GR hr (passes_call (takes_of rfl rfl rfl rfl) (fun _ _ _ _ h => h)) (pa_cons (pv 0) (pa_cons (pv 3) (pa_cons (pe_ix ix_tup (pv 2) (pv 3) (fun _ _ => rfl)) (pa_cons (pv 3) pa_nil))))))))))) (pss_one 
    (ps_if (pt_cmpR op_gt (pe_callB call_len_seq (by rfl) nl PySem.boot_len (pa_cons (pv 2) pa_nil)) (pe_callB call_len_seq (by rfl) nl PySem.boot_len (pa_cons (pv 1) pa_nil)) (nomark _)) (pss_one (ps_raise rfl (takes_of rfl rfl rfl rfl) (pmk_oex GB.o GB.i GB.t GB.F hr2 GB.b .nil pass0 rfl GB.m (pa_cons (pe_callB call_len_seq (by rfl) nl PySem.boot_len (pa_cons (pv 1) pa_nil)) (pa_cons pe_str pa_nil))))) pss_nil))))), ?_⟩
        refine ⟨_, rfl, _, Sh.tup gs, rfl, ⟨pg, rfl, hp⟩, fun H1 S1 => ⟨_, rfl, iteF ⟨_, rfl, _, Sh.tup rs, rfl, ⟨pr, rfl, S1 _ _ hq⟩, fun H2 S2' => ⟨_, rfl, iteF ?_⟩⟩⟩⟩
        have S2 := S1.trans S2'
        have eg := S2 _ _ hp
        have er := S2 _ _ hq
        refine ⟨_, rfl, pg, gs, rfl, .inr (SqT.of eg), _, _, rfl, rfl, _, rfl, ?_⟩
        refine ifD (fun c => mkO_of2 ((k1 60 "many" (due_many both (by show 60 < gs.length; omega))).mono S2)) (fun c => ?_)
        have c60 : gs.length ≤ 60 := by omega
        have rl : rs.length = ss.length := hs.len
        refine ⟨_, rfl, pg, gs, rfl, SqT.of eg, for_enumT (K := K) (a := pg) (xs := gs) (fun i σ H' => ∃ v3 v4 : Option V, σ = [some (.ref t), some (.ref pg), some (.ref pr), v3, v4] ∧ Same H2 H' ∧ ∀ a, a < i → wordC ns.length gs ss a = none)
          ⟨none, none, rfl, Same.refl _, fun a ha => absurd ha (Nat.not_lt_zero a)⟩ (fun i σ H' _ ⟨_, _, _, S, _⟩ => SqT.of (S _ _ eg)) ?_ ?_⟩
        · rintro i x σ H' T hx ⟨v3, v4, rfl, S3, hb⟩ hT0
          have hi : i < gs.length := (List.getElem?_eq_some_iff.mp hx).1
          have S4 : Same H2 (upd H' T (.tup [.int (i : Nat), x])) := S3.trans (new_same hT0)
          refine ⟨T, _, rfl, SqT.of upd_same, rfl, _, _, rfl, _, _, rfl, rfl, ?_⟩
          generalize upd H' T (.tup [.int (i : Nat), x]) = H4 at S4
          have eg4 := S4 _ _ eg
          have er4 := S4 _ _ er
          have SA := S2.trans S4
          obtain ⟨sx, isx⟩ := (kg.keep SA) x (List.mem_of_getElem? hx)
          refine ⟨_, rfl, x, sx, rfl, isx, _, rfl, ?_⟩
          cases e : wholeB x 0 1000000000 with
          | false => exact iteT ⟨_, rfl, mkO_of2 ((k1 (i : Nat) "label" (due_word both c60 hb (word_label hx e) hi)).mono SA)⟩
          | true =>
            obtain ⟨b, rfl, _, _⟩ := whole_int e
            refine iteF ⟨_, rfl, _, _, rfl, rfl, _, rfl, ?_⟩
            cases i with
            | zero =>
              refine ifD (fun c => absurd c (by decide)) (fun _ => ?_)
              have o : ordB gs 0 = false := ord_zero
              refine ⟨_, rfl, _, rfl, pr, rs, rfl, .inr (SqT.of er4), _, _, rfl, rfl, _, rfl, ?_⟩
              refine ifD (fun c => ⟨_, rfl, mkO_of2 ((k1 ((0 : Nat) : Int) "row" (due_word both c60 hb (word_norow hx e o (List.getElem?_eq_none_iff.mpr (by omega))) hi)).mono SA)⟩) (fun c => ?_)
              obtain ⟨z, hz⟩ : ∃ z, rs[0]? = some z := ⟨rs[0]'(by omega), List.getElem?_eq_getElem (by omega)⟩
              obtain ⟨sz, esz, isz, knz⟩ := (hs.keep SA).at_ hz
              refine ⟨_, rfl, _, rfl, _, rfl, _, rfl, _, _, _, _, rfl, rfl, SqT.of er4, at_of (j := 0) (v := z) rfl hz, _, rfl, t, ns, 0, 0, z, sz, rfl, hT.keep SA, isz, knz, fun u hu => (k1 ((0 : Nat) : Int) u (due_word both c60 hb ((word_row hx e o esz).trans hu) hi)).mono SA, fun hn H5 S5 => ⟨_, _, rfl, S4.trans S5, fun a ha => ?_⟩⟩
              rcases Nat.lt_or_ge a (0) with ha2 | ha2
              · exact hb a ha2
              · obtain rfl : a = 0 := by omega
                rw [word_row hx e o esz]
                exact hn
            | succ i =>
              refine ifD (fun _ => ?_) (fun c => absurd (show (0 : Int) < ((i + 1 : Nat) : Int) by omega) c)
              obtain ⟨y, hy⟩ : ∃ y, gs[i]? = some y := ⟨gs[i], List.getElem?_eq_getElem (by omega)⟩
              have wi : wholeB y 0 1000000000 = true := by
                cases ey : wholeB y 0 1000000000 with
                | true => rfl
                | false =>
                  have := hb i (by omega)
                  rw [word_label hy ey] at this
                  cases this
              obtain ⟨a, rfl, _, _⟩ := whole_int wi
              have oo := ord_ints hy hx
              refine ⟨_, rfl, _, rfl, _, rfl, _, _, rfl, rfl, _, _, _, _, rfl, rfl, SqT.of eg4, at_of (j := i) (v := .int a) (by omega) hy, _, _, rfl, rfl, _, rfl, ?_⟩
              refine ifD (fun c => ⟨_, rfl, mkO_of2 ((k1 ((i + 1 : Nat) : Int) "order" (due_word both c60 hb (word_order hx e (oo.trans (decide_eq_true c))) hi)).mono SA)⟩) (fun c => ?_)
              have o : ordB gs (i + 1) = false := by
                rw [oo]
                exact decide_eq_false c
              refine ⟨_, rfl, _, rfl, pr, rs, rfl, .inr (SqT.of er4), _, _, rfl, rfl, _, rfl, ?_⟩
              refine ifD (fun c => ⟨_, rfl, mkO_of2 ((k1 (((i + 1) : Nat) : Int) "row" (due_word both c60 hb (word_norow hx e o (List.getElem?_eq_none_iff.mpr (by omega))) hi)).mono SA)⟩) (fun c => ?_)
              obtain ⟨z, hz⟩ : ∃ z, rs[(i + 1)]? = some z := ⟨rs[(i + 1)]'(by omega), List.getElem?_eq_getElem (by omega)⟩
              obtain ⟨sz, esz, isz, knz⟩ := (hs.keep SA).at_ hz
              refine ⟨_, rfl, _, rfl, _, rfl, _, rfl, _, _, _, _, rfl, rfl, SqT.of er4, at_of (j := (i + 1)) (v := z) rfl hz, _, rfl, t, ns, (i + 1), (i + 1), z, sz, rfl, hT.keep SA, isz, knz, fun u hu => (k1 (((i + 1) : Nat) : Int) u (due_word both c60 hb ((word_row hx e o esz).trans hu) hi)).mono SA, fun hn H5 S5 => ⟨_, _, rfl, S4.trans S5, fun a ha => ?_⟩⟩
              rcases Nat.lt_or_ge a ((i + 1)) with ha2 | ha2
              · exact hb a ha2
              · obtain rfl : a = (i + 1) := by omega
                rw [word_row hx e o esz]
                exact hn
        · rintro σ H' ⟨v3, v4, rfl, S3, hb⟩
          have eg3 := S3 _ _ eg
          have er3 := S3 _ _ er
          refine ⟨_, rfl, pr, rs, rfl, .inr (SqT.of er3), _, rfl, pg, gs, rfl, .inr (SqT.of eg3), _, _, rfl, rfl, _, rfl, ?_⟩
          refine ifD (fun c => ⟨_, rfl, pg, gs, rfl, .inr (SqT.of eg3), mkO_of2 ((k1 _ "rows" (due_rows both c60 hb (by show gs.length < rs.length; omega))).mono (S2.trans S3))⟩) (fun c => ?_)
          exact k2 (due_ok both c60 hb (by show ¬ gs.length < rs.length; omega)) _ (S2.trans S3)
end
end J

set_option Elab.async false
set_option linter.all false
set_option maxRecDepth 100000
set_option maxHeartbeats 4000000
namespace J
open PySem PySem.Spec PyProof.Rows L2
abbrev rTup (K : PySem.W.Frag) : List V → Hp → VK → Prop := fun xs H Q => ∃ p ys, xs = [.ref p] ∧ ((SqL K H p ys ∧ ∀ l, H l = none → Q (.ref l) (upd H l (.tup ys))) ∨ (SqT K H p ys ∧ Q (.ref p) H))
abbrev rLen (K : PySem.W.Frag) : List V → Hp → VK → Prop := fun xs H Q => ∃ p ys, xs = [.ref p] ∧ (SqL K H p ys ∨ SqT K H p ys) ∧ Q (.int (ys.length : Nat)) H
/-! ### the table -/
/-- k lists of n things each at T, new; f tells what stands where -/
def Grid (H0 H : Hp) (T : Addr) (n k : Nat) (f : Nat → Nat → V) : Prop := Same H0 H ∧ H0 T = none ∧ ∃ gs : List Addr, gs.length = k ∧ gs.Nodup ∧ H T = some (.lst (gs.map V.ref)) ∧ ∀ (a : Nat) (g : Addr), gs[a]? = some g → H0 g = none ∧ g ≠ T ∧ ∃ xs, H g = some (.lst xs) ∧ xs.length = n ∧ ∀ b, b < n → xs[b]? = some (f a b)
theorem Grid.new {H0 H : Hp} {T z : Addr} {n k : Nat} {f : Nat → Nat → V} {o : HO} (g : Grid H0 H T n k f) (hz : H z = none) : Grid H0 (upd H z o) T n k f := by
  obtain ⟨S, t0, gs, e, nd, hT, hg⟩ := g
  refine ⟨S.trans (new_same hz), t0, gs, e, nd, by rw [upd_ne (ne_of_none hT hz)]; exact hT, fun a c ha => ?_⟩
  obtain ⟨a0, aT, xs, ea, el, ef⟩ := hg a c ha
  exact ⟨a0, aT, xs, by rw [upd_ne (ne_of_none ea hz)]; exact ea, el, ef⟩
theorem Grid.congr {H0 H : Hp} {T : Addr} {n k : Nat} {f f' : Nat → Nat → V} (g : Grid H0 H T n k f) (h : ∀ a b, a < k → b < n → f a b = f' a b) : Grid H0 H T n k f' := by
  obtain ⟨S, t0, gs, e, nd, hT, hg⟩ := g
  refine ⟨S, t0, gs, e, nd, hT, fun a c ha => ?_⟩
  obtain ⟨a0, aT, xs, ea, el, ef⟩ := hg a c ha
  have hk : a < k := by rw [← e]; exact (List.getElem?_eq_some_iff.mp ha).1
  exact ⟨a0, aT, xs, ea, el, fun b hb => by rw [ef b hb, h a b hk hb]⟩
theorem Grid.at_ {H0 H : Hp} {T : Addr} {n k j : Nat} {f : Nat → Nat → V} (g : Grid H0 H T n k f) (hj : j < k) : ∃ (a : Addr) (xs L : List V), H T = some (.lst L) ∧ L[j]? = some (.ref a) ∧ H a = some (.lst xs) ∧ xs.length = n ∧ (∀ b, b < n → xs[b]? = some (f j b)) ∧ ∀ (b : Nat) (v : V), b < n → Grid H0 (upd H a (.lst (xs.set b v))) T n k (fun a' b' => if a' = j ∧ b' = b then v else f a' b') := by
  obtain ⟨S, t0, gs, e, nd, hT, hg⟩ := g
  have hj' : j < gs.length := by omega
  have ej := List.getElem?_eq_getElem hj'
  obtain ⟨a0, aT, xs, ea, el, ef⟩ := hg j _ ej
  refine ⟨gs[j], xs, _, hT, by rw [List.getElem?_map, ej]; rfl, ea, el, ef, fun b v hb => ⟨fun c o ec => ?_, t0, gs, e, nd, by rw [upd_ne aT.symm]; exact hT, fun c d hc => ?_⟩⟩
  · rw [upd_ne (ne_of_none ec a0)]
    exact S _ _ ec
  · obtain ⟨c0, cT, zs, ec, cl, cf⟩ := hg c d hc
    by_cases q : c = j
    · subst q
      obtain rfl : d = gs[c] := by rw [ej] at hc; exact (Option.some.inj hc).symm
      refine ⟨c0, cT, xs.set b v, upd_same, by rw [List.length_set]; exact el, fun b' hb' => ?_⟩
      by_cases w : b' = b
      · subst w
        rw [List.getElem?_set_self (by omega)]
        show some v = some (if c = c ∧ b' = b' then v else f c b')
        rw [if_pos ⟨rfl, rfl⟩]
      · rw [List.getElem?_set_ne (fun z => w z.symm)]
        show xs[b']? = some (if c = c ∧ b' = b then v else f c b')
        rw [if_neg (fun z => w z.2)]
        exact ef b' hb'
    · have nd2 : d ≠ gs[j] := fun z => q (nd_ix nd hc (by rw [z]; exact ej))
      refine ⟨c0, cT, zs, by rw [upd_ne nd2]; exact ec, cl, fun b' hb' => ?_⟩
      show zs[b']? = some (if c = j ∧ b' = b then v else f c b')
      rw [if_neg (fun z => q z.1)]
      exact cf b' hb'
theorem Grid.ne_new {H0 H : Hp} {T z : Addr} {n k : Nat} {f : Nat → Nat → V} (g : Grid H0 H T n k f) (hz : H z = none) : z ≠ T := by
  obtain ⟨_, _, gs, _, _, hT, _⟩ := g
  exact (ne_of_none hT hz).symm
theorem Grid.push {H0 H H' : Hp} {T z : Addr} {n k : Nat} {f : Nat → Nat → V} {ys : List V} (g : Grid H0 H T n k f) (hn : H z = none) (S' : Same H H') (hz : H' z = some (.lst ys)) (hl : ys.length = n) (hf : ∀ b, b < n → ys[b]? = some (f k b)) : ∃ acc : List V, H' T = some (.lst acc) ∧ acc.length = k ∧ Grid H0 (upd H' T (.lst (acc ++ [.ref z]))) T n (k + 1) f := by
  have zT := g.ne_new hn
  obtain ⟨S, t0, gs, e, nd, hT, hg⟩ := g
  have z0 := Same.free S hn
  have zg : z ∉ gs := fun q => by
    obtain ⟨a, ha⟩ := List.getElem?_of_mem q
    obtain ⟨_, _, xs, ea, _⟩ := hg a z ha
    rw [hn] at ea
    cases ea
  refine ⟨_, S' _ _ hT, by rw [List.length_map]; exact e, fun b o eb => ?_, t0, gs ++ [z], by rw [List.length_append, e]; rfl, ?_, by rw [upd_same, List.map_append]; rfl, fun a c ha => ?_⟩
  · rw [upd_ne (ne_of_none eb t0)]
    exact S' _ _ (S _ _ eb)
  · rw [List.nodup_append]
    exact ⟨nd, by simp, fun a ha b hb => by rw [List.mem_singleton] at hb; subst hb; exact fun q => zg (q ▸ ha)⟩
  · rcases Nat.lt_or_ge a gs.length with q | q
    · rw [List.getElem?_append_left q] at ha
      obtain ⟨a0, aT, xs, ea, el, ef⟩ := hg a c ha
      exact ⟨a0, aT, xs, by rw [upd_ne aT]; exact S' _ _ ea, el, ef⟩
    · have hq : a = k := by
        have := (List.getElem?_eq_some_iff.mp ha).1
        rw [List.length_append] at this
        have l : [z].length = 1 := rfl
        omega
      subst hq
      rw [← e, List.getElem?_append_right (Nat.le_refl _), Nat.sub_self] at ha
      obtain rfl : z = c := Option.some.inj ha
      exact ⟨z0, zT, ys, by rw [upd_ne zT]; exact hz, hl, hf⟩
/-- the tie at a, b of the table over rows tss -/
def cell (bs : List Int) (tss : List (List Int)) (a b : Nat) : V :=
  if b < a then match (tss[a]?.getD [])[b]? with
    | some t => .int t
    | none => .non
  else if a < b then match (tss[b]?.getD [])[a]? with
    | some t => .int (bs[t.toNat]?.getD 0)
    | none => .non
  else .non
/-- the table as it stands at place j, i of the loops -/
def cellAt (bs : List Int) (tss : List (List Int)) (j i a b : Nat) : V := if max a b < j ∨ (max a b = j ∧ min a b < i) then cell bs tss a b else .non
theorem cellAt_next {bs : List Int} {tss : List (List Int)} {j n a b : Nat} (h : ∀ r, tss[j]? = some r → r.length ≤ n) (hj : j < tss.length ∨ True) (hn : n = j) : cellAt bs tss j n a b = cellAt bs tss (j + 1) 0 a b := by
  subst hn
  unfold cellAt
  by_cases c : max a b < n ∨ (max a b = n ∧ min a b < n)
  · rw [if_pos c, if_pos (by omega)]
  · rw [if_neg c]
    by_cases d : max a b < n + 1 ∨ (max a b = n + 1 ∧ min a b < 0)
    · rw [if_pos d]
      have e1 : a = n := by omega
      have e2 : b = n := by omega
      subst e1
      subst e2
      unfold cell
      rw [if_neg (Nat.lt_irrefl _), if_neg (Nat.lt_irrefl _)]
    · rw [if_neg d]
theorem cellAt_step {bs : List Int} {tss : List (List Int)} {j i a b : Nat} {r : List Int} {t : Int} (hr : tss[j]? = some r) (ht : r[i]? = some t) (hi : i < j) :
    (if a = i ∧ b = j then V.int (bs[t.toNat]?.getD 0) else if a = j ∧ b = i then V.int t else cellAt bs tss j i a b) = cellAt bs tss j (i + 1) a b := by
  unfold cellAt
  by_cases c : a = i ∧ b = j
  · obtain ⟨rfl, rfl⟩ := c
    rw [if_pos ⟨rfl, rfl⟩, if_pos (by omega)]
    unfold cell
    rw [if_neg (by omega), if_pos hi, hr]
    show _ = (match r[a]? with | some t => V.int (bs[t.toNat]?.getD 0) | none => V.non)
    rw [ht]
  · rw [if_neg c]
    by_cases d : a = j ∧ b = i
    · obtain ⟨rfl, rfl⟩ := d
      rw [if_pos ⟨rfl, rfl⟩, if_pos (by omega)]
      unfold cell
      rw [if_pos hi, hr]
      show _ = (match r[b]? with | some t => V.int t | none => V.non)
      rw [ht]
    · rw [if_neg d]
      by_cases e : max a b < j ∨ (max a b = j ∧ min a b < i)
      · rw [if_pos e, if_pos (by omega)]
      · rw [if_neg e, if_neg (by omega)]
theorem ixN_in {n j : Nat} (hj : j < n) : ixN n (j : Int) = some j := by
  unfold ixN
  rw [if_pos (by omega), if_pos (by omega)]
  rfl
abbrev s_table_of : Stmt := top 19
theorem sc_table_of : FnScope ["ties", "rows", "table", "j", "row", "i", "tie", "_", "line"] ["ties", "rows"] (defScope s_table_of) := ⟨rfl, rfl, rfl, by decide +kernel, rfl, by decide +kernel, by decide +kernel⟩
/-- at p the rows of ties: tuples, each as long as its place -/
def RowsAt (H : Hp) (p : Addr) (m : Nat) (ps : List Addr) (tss : List (List Int)) : Prop := H p = some (.tup (ps.map V.ref)) ∧ ps.length = tss.length ∧ ∀ (j : Nat) (a : Addr) (ts : List Int), ps[j]? = some a → tss[j]? = some ts → H a = some (.tup (ts.map V.int)) ∧ ts.length = j ∧ ∀ t ∈ ts, 0 ≤ t ∧ t < (m : Nat)
theorem RowsAt.keep {H H' : Hp} {p : Addr} {m : Nat} {ps : List Addr} {tss : List (List Int)} (h : RowsAt H p m ps tss) (S : Same H H') : RowsAt H' p m ps tss :=
  ⟨S _ _ h.1, h.2.1, fun j a ts e e2 => by obtain ⟨x, y⟩ := h.2.2 j a ts e e2; exact ⟨S _ _ x, y⟩⟩
/-- at z the table of the rows tss -/
def TableAt (H : Hp) (z : Addr) (bs : List Int) (tss : List (List Int)) : Prop := ∃ us : List Addr, H z = some (.tup (us.map V.ref)) ∧ us.length = tss.length ∧ ∀ (a : Nat) (u : Addr), us[a]? = some u → ∃ xs : List V, H u = some (.tup xs) ∧ xs.length = tss.length ∧ ∀ b, b < tss.length → xs[b]? = some (cell bs tss a b)
theorem TableAt.keep {H H' : Hp} {z : Addr} {bs : List Int} {tss : List (List Int)} (h : TableAt H z bs tss) (S : Same H H') : TableAt H' z bs tss := by
  obtain ⟨us, a, b, c⟩ := h
  refine ⟨us, S _ _ a, b, fun i u e => ?_⟩
  obtain ⟨xs, x, y⟩ := c i u e
  exact ⟨xs, S _ _ x, y⟩
def spTable (C : Addr) : Sp := fun vs H Q _ => ∃ (t p : Addr) (ns : List Int) (ps : List Addr) (tss : List (List Int)), vs = [.ref t, .ref p] ∧ TiesAt C H t ns ∧ RowsAt H p ns.length ps tss ∧ ps.length ≤ 60 ∧ ∀ (H' : Hp) (z : Addr), Same H H' → H z = none → TableAt H' z ns tss → Q (.ref z) H'
section
variable {P : Program} {w : World} {K : PySem.W.Frag} {mg : Str → Option Value} {base : Heap}
theorem ok_table_of {f C : Addr} {fd : FuncData} (F : Fun K "_table_of" "_table_of" s_table_of f fd) (TC : TiC K C) (nl : mg "len" = none) (nt : mg "tuple" = none) (ne : mg "enumerate" = none) : FnOk P w K mg base CX0 1 f fd ["ties", "rows"] (spTable C) := by
  refine F.ok sc_table_of (fun vs H Q E h => ?_) (fun cdv A outer s H vs Q E hr h => ?_)
  · obtain ⟨t, p, ns, ps, tss, rfl, _⟩ := h
    rfl
  · obtain ⟨t, p, ns, ps, tss, rfl, hT, hR, h60, k⟩ := h
    have hlen := hR.2.1
    refine ⟨_, (C8.pss_cut 
  (ps_setLc (i := 2) (own := [("_", 7)]) (g := gName 7) rfl sc_table_of.nd rfl rfl (sw_true rfl rfl rfl (by decide +kernel)) (pi_tup (pv 1)) (blkOk_by (own := [("_", 7)]) (N := ["ties", "rows", "table", "j", "row", "i", "tie", "_", "line"]) (sc := defScope s_table_of) (by decide +kernel)) (fun _ _ _ _ _ => pg_name (i := 7) sc_table_of.nd rfl (Or.inl rfl)) (fun _ _ _ _ _ => pts_nil) (fun _ _ _ _ _ => (pe_op op_rep (pe_lst (pa_cons pe_non pa_nil)) (pe_callB (id := "len") (r := rLen K) call_len_seq (by rfl) nl PySem.boot_len (pa_cons (pv 1) pa_nil))))) (pss_cons 
  (ps_for PassesOwn.never rfl (pi_enumT (by rfl) ne (pa_cons (pv 1) pa_nil)) (pg_tup (by rfl) (pgs_cons (pg_name (i := 3) sc_table_of.nd rfl (Or.inl rfl)) (pgs_cons (pg_name (i := 4) sc_table_of.nd rfl (Or.inl rfl)) pgs_nil))) (pss_one 
    (ps_for PassesOwn.never rfl (pi_enumT (by rfl) ne (pa_cons (pv 4) pa_nil)) (pg_tup (by rfl) (pgs_cons (pg_name (i := 5) sc_table_of.nd rfl (Or.inl rfl)) (pgs_cons (pg_name (i := 6) sc_table_of.nd rfl (Or.inl rfl)) pgs_nil))) (pss_cons 
      (ps_asg (pv 6) (pg_sub (pe_ix ix_list (pv 2) (pv 3) (fun _ _ => rfl)) (pv 5) set_list)) (pss_one 
      (ps_asg (pe_ix ix_tup (pe_fld (pv 0) rfl) (pv 6) (fun _ _ => rfl)) (pg_sub (pe_ix ix_list (pv 2) (pv 5) (fun _ _ => rfl)) (pv 3) set_list))))))) (pss_one 
  (ps_ret (pe_callTy call_tuple_of (by rfl) nt (by decide +kernel) (pa_cons (pe_lc (own := [("line", 8)]) (g := gName 8) (by rfl) sc_table_of.nd (pi_list (pv 2)) (blkOk_by (own := [("line", 8)]) (N := ["ties", "rows", "table", "j", "row", "i", "tie", "_", "line"]) (sc := defScope s_table_of) (by decide +kernel)) (fun _ _ _ _ _ => pg_name (i := 8) sc_table_of.nd rfl (Or.inl rfl)) (fun _ _ _ _ _ => pts_nil) (fun _ _ _ _ _ => (pe_callTy (T := "tuple") (r := rTup K) call_tuple_of (by rfl) nt (by decide +kernel) (pa_cons (pv 8) pa_nil)))) pa_nil)))))), ?_⟩
    refine ⟨fun σ' H' => ∃ (T : Addr) (v3 v4 v5 v6 : Option V), σ' = [some (.ref t), some (.ref p), some (.ref T), v3, v4, v5, v6, none, none] ∧ Grid H H' T ps.length ps.length (fun _ _ => .non), ?_, ?_⟩
    · refine ⟨_, rfl, p, rfl, ⟨_, SqT.of hR.1⟩, fun D hD => ?_⟩
      refine lc_tup (K := K) (a := p) (xs := ps.map V.ref) (fun i H1 => Grid H H1 D ps.length i (fun _ _ => .non)) ⟨new_same hD, hD, [], rfl, .nil, upd_same, fun a c ha => nomatch ha⟩ (fun i H1 _ g => SqT.of (g.1 _ _ hR.1)) ?_ ?_
      · rintro i x H1 hx g
        refine ⟨rfl, yesT ?_⟩
        have hi : i < ps.length := by
          have q := (List.getElem?_eq_some_iff.mp hx).1
          rw [List.length_map] at q
          exact q
        refine ⟨(by show 1 ≤ sizeLine; decide), fun q hq => ⟨_, rfl, p, _, rfl, .inr (SqT.of ((new_same hq) _ _ (g.1 _ _ hR.1))), q, _, [.non], rfl, rfl, upd_same, by omega, by rw [List.length_map]; omega, ?_, fun z hz => ?_⟩⟩
        · rw [List.length_map]
          show 1 * ps.length ≤ 16777216
          omega
        · have g1 := g.new (o := .lst [.non]) hq
          have fl : ((List.replicate (((ps.map V.ref).length : Nat) : Int).toNat [V.non]).flatten) = List.replicate ps.length V.non := by
            rw [List.length_map, Int.toNat_natCast]
            generalize ps.length = n
            induction n with
            | zero => rfl
            | succ n ih => rw [List.replicate_succ, List.flatten_cons, ih, List.replicate_succ]; rfl
          rw [fl]
          obtain ⟨acc, ea, el, gg⟩ := g1.push (H' := upd (upd H1 q (.lst [.non])) z (.lst (List.replicate ps.length V.non))) hz (new_same hz) upd_same (by rw [List.length_replicate]) (fun b hb => by rw [List.getElem?_replicate, if_pos hb])
          exact ⟨acc, ea, by rw [el]; show i < 16777216; omega, gg⟩
      · rintro H1 g
        rw [List.length_map] at g
        exact ⟨D, _, _, _, _, rfl, g⟩
    · rintro σ' H' ⟨T, v3, v4, v5, v6, rfl, g⟩
      obtain ⟨dx, tb, hx, htb⟩ := id hT
      refine ⟨_, rfl, p, _, rfl, SqT.of (g.1 _ _ hR.1), for_enumT (K := K) (a := p) (xs := ps.map V.ref) (fun i σ H1 => ∃ v3 v4 v5 v6 : Option V, σ = [some (.ref t), some (.ref p), some (.ref T), v3, v4, v5, v6, none, none] ∧ Grid H H1 T ps.length ps.length (cellAt ns tss i 0))
        ⟨v3, v4, v5, v6, rfl, g.congr (fun a b _ _ => by unfold cellAt; rw [if_neg (by omega)])⟩ (fun i σ H1 _ ⟨_, _, _, _, _, g1⟩ => SqT.of (g1.1 _ _ hR.1)) ?_ ?_⟩
      · rintro j x σ H1 Z hxj ⟨v3, v4, v5, v6, rfl, g1⟩ hZ
        have hj : j < ps.length := by
          have q := (List.getElem?_eq_some_iff.mp hxj).1
          rw [List.length_map] at q
          exact q
        obtain ⟨a, ha, rfl⟩ : ∃ a, ps[j]? = some a ∧ x = V.ref a := by
          rw [List.getElem?_map, List.getElem?_eq_getElem hj] at hxj
          exact ⟨ps[j], List.getElem?_eq_getElem hj, (Option.some.inj hxj).symm⟩
        have hjt : j < tss.length := by omega
        have ets := List.getElem?_eq_getElem hjt
        generalize tss[j] = ts at ets
        obtain ⟨hts, tl, tr⟩ := hR.2.2 j a ts ha ets
        refine ⟨Z, _, rfl, SqT.of upd_same, rfl, _, _, rfl, _, _, rfl, rfl, ?_⟩
        have g2 := g1.new (o := .tup [.int (j : Nat), .ref a]) hZ
        generalize upd H1 Z (.tup [.int (j : Nat), .ref a]) = H2 at g2
        refine ⟨_, rfl, a, _, rfl, SqT.of (g2.1 _ _ hts), for_enumT (K := K) (a := a) (xs := ts.map V.int) (fun i σ H1 => ∃ v5 v6 : Option V, σ = [some (.ref t), some (.ref p), some (.ref T), some (.int (j : Nat)), some (.ref a), v5, v6, none, none] ∧ Grid H H1 T ps.length ps.length (cellAt ns tss j i))
          ⟨_, _, rfl, g2⟩ (fun i σ H1 _ ⟨_, _, _, g1⟩ => SqT.of (g1.1 _ _ hts)) ?_ ?_⟩
        · rintro i y σ H3 Z2 hyi ⟨v5, v6, rfl, g3⟩ hZ2
          have hi : i < ts.length := by
            have q := (List.getElem?_eq_some_iff.mp hyi).1
            rw [List.length_map] at q
            exact q
          obtain ⟨c, hc0, hc, rfl⟩ : ∃ c, ts[i]? = some c ∧ c ∈ ts ∧ y = V.int c := by
            rw [List.getElem?_map, List.getElem?_eq_getElem hi] at hyi
            exact ⟨ts[i], List.getElem?_eq_getElem hi, List.getElem_mem hi, (Option.some.inj hyi).symm⟩
          obtain ⟨c0, c1⟩ := tr c hc
          refine ⟨Z2, _, rfl, SqT.of upd_same, rfl, _, _, rfl, _, _, rfl, rfl, ?_⟩
          have g4 := g3.new (o := .tup [.int (i : Nat), .int c]) hZ2
          generalize upd H3 Z2 (.tup [.int (i : Nat), .int c]) = H4 at g4
          obtain ⟨b1, xs1, L1, e1, e2, e3, e4, _, e5⟩ := g4.at_ hj
          have g5 := e5 i (.int c) (by omega)
          refine ⟨_, rfl, _, rfl, _, rfl, _, _, _, _, rfl, rfl, SqL.of e1, at_of (j := j) rfl e2, _, rfl, b1, xs1, _, i, rfl, rfl, e3, by rw [e4]; exact ixN_in (by omega), ?_⟩
          generalize upd H4 b1 (.lst (xs1.set i (.int c))) = H5 at g5
          have hx5 := g5.1 _ _ hx
          have ht5 := g5.1 _ _ htb
          obtain ⟨b2, xs2, L2, f1, f2, f3, f4, _, f5⟩ := g5.at_ (j := i) (by omega)
          have hnc : ns[c.toNat]? = some (ns[c.toNat]'(by omega)) := List.getElem?_eq_getElem (by omega)
          have hcn : (ns.map V.int)[c.toNat]? = some (V.int (ns[c.toNat]'(by omega))) := by
            rw [List.getElem?_map, hnc]
            rfl
          refine ⟨_, rfl, t, C, dx, _, _, rfl, hx5, TC.cl, TC.nB, tf_backs _ _, _, rfl, _, _, _, _, rfl, rfl, SqT.of ht5, at_of (j := c.toNat) (by omega) hcn, ?_⟩
          refine ⟨_, rfl, _, rfl, _, _, _, _, rfl, rfl, SqL.of f1, at_of (j := i) rfl f2, _, rfl, b2, xs2, _, j, rfl, rfl, f3, by rw [f4]; exact ixN_in (by omega), ?_⟩
          refine ⟨_, _, rfl, (f5 j _ hj).congr fun a' b' _ _ => ?_⟩
          have q := cellAt_step (bs := ns) (a := a') (b := b') ets hc0 (by omega)
          rw [hnc] at q
          exact q
        · rintro σ H3 ⟨v5, v6, rfl, g3⟩
          rw [List.length_map] at g3
          exact ⟨_, _, _, _, rfl, g3.congr fun a' b' _ _ => cellAt_next (fun r er => by rw [ets] at er; obtain rfl := Option.some.inj er; exact Nat.le_refl _) (.inr trivial) (by omega)⟩
      · rintro σ H1 ⟨v3, v4, v5, v6, rfl, ⟨S1, t0, gs, el, _, eT, hg⟩⟩
        rw [List.length_map] at hg
        have fin : ∀ a b, a < ps.length → b < ps.length → cellAt ns tss ps.length 0 a b = cell ns tss a b := fun a b ha hb => by
          unfold cellAt
          rw [if_pos (by omega)]
        refine ⟨_, rfl, T, rfl, ⟨_, SqL.of eT⟩, fun D hD => ?_⟩
        refine lc_list (K := K) (a := T) (xs := gs.map V.ref) (fun i H2 => Same H1 H2 ∧ H1 D = none ∧ ∃ us : List Addr, us.length = i ∧ H2 D = some (.lst (us.map V.ref)) ∧ ∀ (a : Nat) (u : Addr), us[a]? = some u → u ≠ D ∧ ∃ xs : List V, H2 u = some (.tup xs) ∧ xs.length = ps.length ∧ ∀ b, b < ps.length → xs[b]? = some (cell ns tss a b)) ⟨new_same hD, hD, [], rfl, upd_same, fun a u e => nomatch e⟩ (fun i H2 _ ⟨S2, _⟩ => SqL.of (S2 _ _ eT)) ?_ ?_
        · rintro i x H2 hxi ⟨S2, D0, us, ul, ea, hu⟩
          have hi : i < gs.length := by
            have q := (List.getElem?_eq_some_iff.mp hxi).1
            rw [List.length_map] at q
            exact q
          obtain ⟨b, hb, rfl⟩ : ∃ b, gs[i]? = some b ∧ x = V.ref b := by
            rw [List.getElem?_map, List.getElem?_eq_getElem hi] at hxi
            exact ⟨gs[i], List.getElem?_eq_getElem hi, (Option.some.inj hxi).symm⟩
          obtain ⟨_, _, xs, eb, xl, xf⟩ := hg i b hb
          refine ⟨rfl, yesT ?_⟩
          refine ⟨_, rfl, b, xs, rfl, .inl ⟨SqL.of (S2 _ _ eb), fun z hz => ?_⟩⟩
          have nz : D ≠ z := ne_of_none ea hz
          refine ⟨us.map V.ref, by rw [upd_ne nz]; exact ea, by rw [List.length_map]; show us.length < 16777216; omega, fun c o ec => ?_, D0, us ++ [z], by rw [List.length_append, ul]; rfl, by rw [upd_same, List.map_append]; rfl, fun a u e => ?_⟩
          · rw [upd_ne (ne_of_none ec D0), upd_ne (ne_of_none (S2 _ _ ec) hz)]
            exact S2 _ _ ec
          · rcases Nat.lt_or_ge a us.length with q | q
            · rw [List.getElem?_append_left q] at e
              obtain ⟨n1, ys, w1, w2⟩ := hu a u e
              exact ⟨n1, ys, by rw [upd_ne n1, upd_ne (ne_of_none w1 hz)]; exact w1, w2⟩
            · have hq : a = i := by
                have := (List.getElem?_eq_some_iff.mp e).1
                rw [List.length_append] at this
                have l : [z].length = 1 := rfl
                omega
              subst hq
              rw [← ul, List.getElem?_append_right (Nat.le_refl _), Nat.sub_self] at e
              obtain rfl : z = u := Option.some.inj e
              refine ⟨nz.symm, xs, by rw [upd_ne nz.symm, upd_same], xl, fun b' hb' => ?_⟩
              rw [xf b' hb', fin a b' (by omega) hb']
        · rintro H2 ⟨S2, D0, us, ul, ea, hu⟩
          refine ⟨D, _, rfl, .inl ⟨SqL.of ea, fun z hz => ?_⟩⟩
          rw [List.length_map] at ul
          refine k _ z ((S1.trans S2).trans (new_same hz)) (Same.free (S1.trans S2) hz) ⟨us, upd_same, by omega, fun a u e => ?_⟩
          obtain ⟨_, xs, w1, w2, w3⟩ := hu a u e
          exact ⟨xs, (new_same hz) _ _ w1, by omega, fun b hb => w3 b (by omega)⟩
end
end J

set_option Elab.async false
set_option linter.all false
set_option maxRecDepth 100000
set_option maxHeartbeats 4000000
namespace J
open PySem PySem.Spec PyProof.Rows L2
/-! ### a company is made -/
theorem dc_enumT {K : PySem.W.Frag} {a : Addr} {xs : List V} {g : TG} {tt : TT} {tk tv : TE} {vs : List Nat} {σ : L2.St} {H1 : Hp} {D : Addr} {Qd : Hp → Prop} (Pv : Nat → Hp → Prop) (h0 : Pv 0 (upd H1 D (.dK []))) (hl : ∀ i H, i ≤ xs.length → Pv i H → SqT K H a xs)
    (hs : ∀ i x H T, xs[i]? = some x → Pv i H → H T = none → g (.ref T) (wipe σ vs) (upd H T (.tup [.int (i : Nat), x])) fun σ2 H2 => wipe σ2 vs = wipe σ vs ∧ tt σ2 H2 fun b H3 =>
      if b = true then tk σ2 H3 fun y H4 => tv σ2 H4 fun z H5 => ∃ kvs k, y = kV k ∧ H5 D = some (.dK kvs) ∧ kvs.length < sizeLine ∧ Pv (i + 1) (upd H5 D (.dK (putK kvs k z))) else Pv (i + 1) H3) (hd : ∀ H, Pv xs.length H → Qd H) :
    ∃ W : Nat → Nat → Hp → Prop, (∃ m, W 0 m (upd H1 D (.dK []))) ∧ ∀ i m H, W i m H →
      ((Itet K a).stop i H ∧ Qd H) ∨ ((Itet K a).go i H ∧ ∃ Nx : Hp → Prop, (∀ H', Nx H' → ∃ m', m' < m ∧ W (i + 1) m' H') ∧ ∀ x H', (Itet K a).yld i H x H' → g x (wipe σ vs) H' fun σ2 H2 => wipe σ2 vs = wipe σ vs ∧ tt σ2 H2 fun b H3 =>
        if b = true then tk σ2 H3 fun y H4 => tv σ2 H4 fun z H5 => ∃ kvs k, y = kV k ∧ H5 D = some (.dK kvs) ∧ kvs.length < sizeLine ∧ Nx (upd H5 D (.dK (putK kvs k z))) else Nx H3) := by
  refine ⟨fun i m H => m = xs.length - i ∧ i ≤ xs.length ∧ Pv i H, ⟨xs.length, by simp, Nat.zero_le _, h0⟩, ?_⟩
  rintro i m H ⟨rfl, hi, p⟩
  have q := hl i H hi p
  by_cases hlt : i < xs.length
  · refine .inr ⟨⟨xs, xs[i], q, by simp [hlt]⟩, Pv (i + 1), fun H' p' => ⟨xs.length - (i + 1), by omega, rfl, hlt, p'⟩, ?_⟩
    rintro x H' ⟨T, y, rfl, hT, rfl, hy⟩
    exact hs i y H T (hy xs q) p hT
  · have e : i = xs.length := by omega
    subst e
    exact .inl ⟨⟨xs, q, rfl⟩, hd H p⟩
theorem ints_of : ∀ {xs : List V}, (∀ x ∈ xs, ∃ i, x = V.int i) → ∃ is : List Int, xs = is.map V.int
  | [], _ => ⟨[], rfl⟩
  | x :: xs, h => by
    obtain ⟨i, rfl⟩ := h x (List.mem_cons_self ..)
    obtain ⟨is, rfl⟩ := ints_of (xs := xs) fun y hy => h y (List.mem_cons_of_mem _ hy)
    exact ⟨i :: is, rfl⟩
/-- what a due of none says -/
structure GoodC (m : Nat) (g r : Sh) (ss : List Sh) : Prop where
  sq : ((g.isL || g.isT) && (r.isL || r.isT)) = true
  le : (items g).length ≤ 60
  ln : (items r).length ≤ (items g).length
  wd : ∀ j, j < (items g).length → wordC m (items g) ss j = none
theorem scan_get {f : Nat → Option Str} : ∀ {n : Nat}, scan f n = none → ∀ j, j < n → f j = none
  | 0, _, j, hj => absurd hj (Nat.not_lt_zero j)
  | n + 1, h, j, hj => by
    have h' : (match scan f n with | some r => some r | none => (f n).map fun w => (n, w)) = none := h
    cases e : scan f n with
    | some r => rw [e] at h'; cases h'
    | none =>
      rw [e] at h'
      rcases Nat.lt_or_ge j n with hl | hl
      · exact scan_get e j hl
      · obtain rfl : j = n := by omega
        cases e2 : f j with
        | none => rfl
        | some w => rw [e2] at h'; cases h'
theorem goodC_of {m : Nat} {g r : Sh} {ss : List Sh} (h : dueC m g r ss = none) : GoodC m g r ss := by
  unfold dueC at h
  by_cases h1 : ((g.isL || g.isT) && (r.isL || r.isT)) = true
  · rw [if_pos h1] at h
    by_cases h2 : (items g).length ≤ 60
    · rw [if_pos h2] at h
      cases e : scan (wordC m (items g) ss) (items g).length with
      | some p =>
        rw [e] at h
        cases h
      | none =>
        rw [e] at h
        have h' : (if (items g).length < (items r).length then some ((((items g).length : Nat) : Int), ("rows" : Str)) else none) = none := h
        by_cases h3 : (items g).length < (items r).length
        · rw [if_pos h3] at h'; cases h'
        · exact ⟨h1, h2, by omega, scan_get e⟩
    · rw [if_neg h2] at h; cases h
  · rw [if_neg h1] at h; cases h
theorem rowW_good {m n : Nat} {s : Sh} (h : rowW m n s = none) : (s.isL || s.isT) = true ∧ ∃ ts : List Int, items s = ts.map V.int ∧ ts.length = n ∧ ∀ t ∈ ts, 0 ≤ t ∧ t < (m : Nat) := by
  unfold rowW at h
  by_cases h1 : (s.isL || s.isT) = true
  · rw [if_pos h1] at h
    by_cases h2 : (items s).length = n
    · rw [if_pos h2] at h
      by_cases h3 : ∀ x ∈ items s, wholeB x 0 ((m : Nat) - 1) = true
      · obtain ⟨ts, e⟩ := ints_of fun x hx => let ⟨b, e, _⟩ := whole_int (h3 x hx); ⟨b, e⟩
        refine ⟨h1, ts, e, by rw [← h2, e, List.length_map], fun t ht => ?_⟩
        have q : V.int t ∈ items s := by rw [e]; exact List.mem_map.mpr ⟨t, ht, rfl⟩
        obtain ⟨b, eb, b0, b1⟩ := whole_int (h3 _ q)
        have : t = b := by injection eb
        subst this
        exact ⟨b0, by omega⟩
      · rw [if_neg h3] at h; cases h
    · rw [if_neg h2] at h; cases h
  · rw [if_neg h1] at h; cases h
theorem word_good {m j : Nat} {gs : List V} {ss : List Sh} {x : V} (hx : gs[j]? = some x) (h : wordC m gs ss j = none) : wholeB x 0 1000000000 = true ∧ ∃ s, ss[j]? = some s ∧ rowW m j s = none := by
  unfold wordC at h
  rw [hx] at h
  have h' : (if wholeB x 0 1000000000 = true then if ordB gs j = true then some ("order" : Str) else match ss[j]? with | none => some ("row" : Str) | some s => rowW m j s else some ("label" : Str)) = none := h
  by_cases h1 : wholeB x 0 1000000000 = true
  · rw [if_pos h1] at h'
    by_cases h2 : ordB gs j = true
    · rw [if_pos h2] at h'; cases h'
    · rw [if_neg h2] at h'
      cases e : ss[j]? with
      | none => rw [e] at h'; cases h'
      | some s => rw [e] at h'; exact ⟨h1, s, rfl, h'⟩
  · rw [if_neg h1] at h'; cases h'
/-- guests are ints -/
theorem GoodC.ints {m : Nat} {g r : Sh} {ss : List Sh} (h : GoodC m g r ss) : ∃ is : List Int, items g = is.map V.int := by
  refine ints_of fun x hx => ?_
  obtain ⟨j, hj⟩ := List.getElem?_of_mem hx
  obtain ⟨w, _⟩ := word_good hj (h.wd j (List.getElem?_eq_some_iff.mp hj).1)
  obtain ⟨b, e, _⟩ := whole_int w
  exact ⟨b, e⟩
theorem GoodC.row {m : Nat} {g r : Sh} {ss : List Sh} (h : GoodC m g r ss) {j : Nat} (hj : j < (items g).length) : ∃ s, ss[j]? = some s ∧ rowW m j s = none :=
  (word_good (List.getElem?_eq_getElem hj) (h.wd j hj)).2
theorem GoodC.full {m : Nat} {g r : Sh} {ss : List Sh} (h : GoodC m g r ss) : (items g).length ≤ ss.length := by
  rcases Nat.lt_or_ge ss.length (items g).length with c | c
  · obtain ⟨s, es, _⟩ := h.row (j := ss.length) c
    have := (List.getElem?_eq_some_iff.mp es).1
    omega
  · exact c
def toInts (xs : List V) : List Int := xs.filterMap fun | .int i => some i | _ => none
theorem toInts_map (is : List Int) : toInts (is.map V.int) = is := by
  unfold toInts
  rw [List.filterMap_map]
  exact List.filterMap_some
theorem GoodC.tss {m : Nat} {g r : Sh} {ss : List Sh} (h : GoodC m g r ss) (hl : ss.length ≤ (items g).length) : ∃ tss : List (List Int), tss.length = ss.length ∧ ∀ (j : Nat) (s : Sh) (ts : List Int), ss[j]? = some s → tss[j]? = some ts → items s = ts.map V.int ∧ ts.length = j ∧ ∀ t ∈ ts, 0 ≤ t ∧ t < (m : Nat) := by
  refine ⟨ss.map fun s => toInts (items s), by rw [List.length_map], fun j s ts es ets => ?_⟩
  have hj : j < ss.length := (List.getElem?_eq_some_iff.mp es).1
  rw [List.getElem?_map, es] at ets
  have q : toInts (items s) = ts := Option.some.inj ets
  obtain ⟨s', es', ew⟩ := h.row (j := j) (by omega)
  rw [es] at es'
  obtain rfl := Option.some.inj es'
  obtain ⟨_, ts', e1, e2, e3⟩ := rowW_good ew
  rw [e1, toInts_map] at q
  subst q
  exact ⟨e1, e2, e3⟩
/-- the class Company in the written part -/
structure CoC (K : PySem.W.Frag) (C : Addr) : Prop where
  cl : Cls K C
  nT : NoAttr K C "ties"
  nG : NoAttr K C "guests"
  nR : NoAttr K C "rows"
  nB : NoAttr K C "table"
  nP : NoAttr K C "_places"
def f1 (t : Addr) : List (Str × V) := putF "ties" (.ref t) []
def f2 (t g : Addr) : List (Str × V) := putF "guests" (.ref g) (f1 t)
def f3 (t g r : Addr) : List (Str × V) := putF "rows" (.ref r) (f2 t g)
def f4 (t g r b : Addr) : List (Str × V) := putF "table" (.ref b) (f3 t g r)
def cf (t g r b p : Addr) : List (Str × V) := putF "_places" (.ref p) (f4 t g r b)
theorem l1 (t : Addr) : (f1 t).length < 1000 := Nat.lt_of_le_of_lt (length_putF _ _ _) (by decide)
theorem l2' {f : Str} {v : V} {fs : List (Str × V)} {n : Nat} (h : fs.length ≤ n) : (putF f v fs).length ≤ n + 1 := Nat.le_trans (length_putF _ _ _) (by omega)
theorem l2 (t g : Addr) : (f2 t g).length < 1000 := Nat.lt_of_le_of_lt (l2' (n := 1) (l2' (n := 0) (Nat.le_refl _))) (by decide)
theorem l3 (t g r : Addr) : (f3 t g r).length < 1000 := Nat.lt_of_le_of_lt (l2' (n := 2) (l2' (n := 1) (l2' (n := 0) (Nat.le_refl _)))) (by decide)
theorem l4 (t g r b : Addr) : (f4 t g r b).length < 1000 := Nat.lt_of_le_of_lt (l2' (n := 3) (l2' (n := 2) (l2' (n := 1) (l2' (n := 0) (Nat.le_refl _))))) (by decide)
theorem ne_ties_guests : ¬ (("ties" : Str) = "guests") := by decide +kernel
theorem ne_ties_rows : ¬ (("ties" : Str) = "rows") := by decide +kernel
theorem ne_ties_table : ¬ (("ties" : Str) = "table") := by decide +kernel
theorem ne_ties__places : ¬ (("ties" : Str) = "_places") := by decide +kernel
theorem ne_guests_ties : ¬ (("guests" : Str) = "ties") := by decide +kernel
theorem ne_guests_rows : ¬ (("guests" : Str) = "rows") := by decide +kernel
theorem ne_guests_table : ¬ (("guests" : Str) = "table") := by decide +kernel
theorem ne_guests__places : ¬ (("guests" : Str) = "_places") := by decide +kernel
theorem ne_rows_ties : ¬ (("rows" : Str) = "ties") := by decide +kernel
theorem ne_rows_guests : ¬ (("rows" : Str) = "guests") := by decide +kernel
theorem ne_rows_table : ¬ (("rows" : Str) = "table") := by decide +kernel
theorem ne_rows__places : ¬ (("rows" : Str) = "_places") := by decide +kernel
theorem ne_table_ties : ¬ (("table" : Str) = "ties") := by decide +kernel
theorem ne_table_guests : ¬ (("table" : Str) = "guests") := by decide +kernel
theorem ne_table_rows : ¬ (("table" : Str) = "rows") := by decide +kernel
theorem ne_table__places : ¬ (("table" : Str) = "_places") := by decide +kernel
theorem ne__places_ties : ¬ (("_places" : Str) = "ties") := by decide +kernel
theorem ne__places_guests : ¬ (("_places" : Str) = "guests") := by decide +kernel
theorem ne__places_rows : ¬ (("_places" : Str) = "rows") := by decide +kernel
theorem ne__places_table : ¬ (("_places" : Str) = "table") := by decide +kernel
theorem f3_rows (t g r : Addr) : (f3 t g r).lookup ("rows" : Str) = some (.ref r) := by
  unfold f3
  rw [lookup_putF, if_pos rfl]
theorem f4_guests (t g r b : Addr) : (f4 t g r b).lookup ("guests" : Str) = some (.ref g) := by
  unfold f4 f3 f2
  rw [lookup_putF, if_neg ne_guests_table, lookup_putF, if_neg ne_guests_rows, lookup_putF, if_pos rfl]
theorem cf_guests (t g r b p : Addr) : (cf t g r b p).lookup ("guests" : Str) = some (.ref g) := by
  unfold cf
  rw [lookup_putF, if_neg ne_guests__places, f4_guests]
theorem cf_rows (t g r b p : Addr) : (cf t g r b p).lookup ("rows" : Str) = some (.ref r) := by
  unfold cf f4
  rw [lookup_putF, if_neg ne_rows__places, lookup_putF, if_neg ne_rows_table, f3_rows]
theorem TiesAt.ne {C CC : Addr} {H : Hp} {x dx t : Addr} {ns : List Int} (h : TiesAt C H t ns) (hx : H x = some (.ins CC dx [])) : t ≠ x := by
  obtain ⟨d, tb, e, _⟩ := h
  refine ne_of e hx fun z => ?_
  injection z with _ _ z
  have q := tf_backs tb (ns.length : Nat)
  rw [z] at q
  cases q
theorem TiesAt.but {C : Addr} {H H' : Hp} {x t CC dx : Addr} {ns : List Int} (h : TiesAt C H t ns) (hx : H x = some (.ins CC dx [])) (B : ∀ b o, b ≠ x → H b = some o → H' b = some o) : TiesAt C H' t ns := by
  have nt := h.ne hx
  obtain ⟨d, tb, e, e2⟩ := h
  exact ⟨d, tb, B _ _ nt e, B _ _ (ne_of e2 hx (by intro z; cases z)) e2⟩
theorem word_ord {m j : Nat} {gs : List V} {ss : List Sh} {x : V} (hx : gs[j]? = some x) (h : wordC m gs ss j = none) : ordB gs j = false := by
  obtain ⟨w, _⟩ := word_good hx h
  cases e : ordB gs j with
  | false => rfl
  | true => rw [word_order hx w e] at h; cases h
/-- one after another -/
def Asc (is : List Int) : Prop := ∀ (i : Nat) (a b : Int), is[i]? = some a → is[i + 1]? = some b → a < b
theorem Asc.lt {is : List Int} (h : Asc is) : ∀ (d i : Nat) (a b : Int), is[i]? = some a → is[i + 1 + d]? = some b → a < b
  | 0, i, a, b, e1, e2 => h i a b e1 e2
  | d + 1, i, a, b, e1, e2 => by
    have hl := (List.getElem?_eq_some_iff.mp e2).1
    have e3 := List.getElem?_eq_getElem (l := is) (i := i + 1 + d) (by omega)
    have q := Asc.lt h d i a _ e1 e3
    have r := h (i + 1 + d) _ b e3 e2
    omega
theorem Asc.inj {is : List Int} (h : Asc is) {i j : Nat} {a : Int} (e1 : is[i]? = some a) (e2 : is[j]? = some a) : i = j := by
  rcases Nat.lt_trichotomy i j with q | q | q
  · have := h.lt (j - i - 1) i a a e1 (by rw [show i + 1 + (j - i - 1) = j by omega]; exact e2)
    omega
  · exact q
  · have := h.lt (i - j - 1) j a a e2 (by rw [show j + 1 + (i - j - 1) = i by omega]; exact e1)
    omega
theorem GoodC.asc {m : Nat} {g r : Sh} {ss : List Sh} (h : GoodC m g r ss) {is : List Int} (e : items g = is.map V.int) : Asc is := fun i a b e1 e2 => by
  have h1 : (items g)[i]? = some (.int a) := by rw [e]; exact ints_at e1
  have h2 : (items g)[i + 1]? = some (.int b) := by rw [e]; exact ints_at e2
  have o := word_ord h2 (h.wd _ (List.getElem?_eq_some_iff.mp h2).1)
  rw [ord_ints h1 h2] at o
  have := of_decide_eq_false o
  omega
theorem GoodC.labels {m : Nat} {g r : Sh} {ss : List Sh} (h : GoodC m g r ss) {is : List Int} (e : items g = is.map V.int) : ∀ n ∈ is, 0 ≤ n ∧ n ≤ 1000000000 := fun n hn => by
  obtain ⟨j, hj⟩ := List.getElem?_of_mem hn
  have h1 : (items g)[j]? = some (.int n) := by rw [e]; exact ints_at hj
  obtain ⟨w, _⟩ := word_good h1 (h.wd j (List.getElem?_eq_some_iff.mp h1).1)
  obtain ⟨b, eb, b0, b1⟩ := whole_int w
  have : n = b := by injection eb
  omega
/-- where a label stands among the guests -/
def place (is : List Int) (k : Key) : Option V := match k with
  | .inl x => (is.findIdx? fun y => decide (y = x)).map fun j => V.int (j : Nat)
  | .inr _ => none
theorem place_next {is : List Int} {i : Nat} {n : Int} (h : is[i]? = some n) (a : Asc is) (k : Key) : place (is.take (i + 1)) k = if k = .inl n then some (.int (i : Nat)) else place (is.take i) k := by
  have e : is.take (i + 1) = is.take i ++ [n] := by rw [List.take_add_one, h]; rfl
  have hi : i < is.length := (List.getElem?_eq_some_iff.mp h).1
  have hl : (is.take i).length = i := by rw [List.length_take]; omega
  cases k with
  | inr s => rw [if_neg (by intro z; cases z)]; rfl
  | inl x =>
    by_cases c : x = n
    · subst c
      rw [if_pos rfl]
      have no : (is.take i).findIdx? (fun y => decide (y = x)) = none := by
        rw [List.findIdx?_eq_none_iff]
        intro y hy
        obtain ⟨j, hj⟩ := List.getElem?_of_mem hy
        have jl := (List.getElem?_eq_some_iff.mp hj).1
        rw [hl] at jl
        rw [List.getElem?_take_of_lt jl] at hj
        exact decide_eq_false fun q => by subst q; have := a.inj hj h; omega
      show Option.map _ ((is.take (i + 1)).findIdx? _) = _
      rw [e, List.findIdx?_append, no]
      simp [hl]
    · rw [if_neg (fun z => c (by injection z))]
      show ((is.take (i + 1)).findIdx? _).map _ = ((is.take i).findIdx? _).map _
      rw [e, List.findIdx?_append]
      simp [fun z => c (Eq.symm z)]
      cases (is.take i).findIdx? (fun y => decide (y = x)) <;> simp [Ne.symm c]
/-- a company at x: its Ties, its guests, its rows, its table, its places -/
def CompAt (C CC : Addr) (H : Hp) (x : Addr) (ns is : List Int) (tss : List (List Int)) : Prop := ∃ (dx t g r b p : Addr) (ps : List Addr) (kvs : List (Key × V)), H x = some (.ins CC dx (cf t g r b p)) ∧ TiesAt C H t ns ∧ H g = some (.tup (is.map V.int)) ∧ RowsAt H r ns.length ps tss ∧ TableAt H b ns tss ∧ H p = some (.dK kvs) ∧ (∀ k, valV kvs k = place is k) ∧ Asc is ∧ tss.length = is.length ∧ is.length ≤ 60 ∧ ∀ n ∈ is, 0 ≤ n ∧ n ≤ 1000000000
theorem CompAt.keep {C CC : Addr} {H H' : Hp} {x : Addr} {ns is : List Int} {tss : List (List Int)} (h : CompAt C CC H x ns is tss) (S : Same H H') : CompAt C CC H' x ns is tss := by
  obtain ⟨dx, t, g, r, b, p, ps, kvs, a1, a2, a3, a4, a5, a6, a7⟩ := h
  exact ⟨dx, t, g, r, b, p, ps, kvs, S _ _ a1, a2.keep S, S _ _ a3, a4.keep S, a5.keep S, S _ _ a6, a7⟩
abbrev s_Company_init : Stmt := inClass (top 18) 0
theorem sc_Company_init : FnScope ["self", "ties", "guests", "rows", "row", "place", "label"] ["self", "ties", "guests", "rows"] (defScope s_Company_init) := ⟨rfl, rfl, rfl, by decide +kernel, rfl, by decide +kernel, by decide +kernel⟩
def spCompI (C CC CB : Addr) : Sp := fun vs H Q E => ∃ (x dx t : Addr) (ns : List Int) (g r : V) (sg sr : Sh) (ss : List Sh), vs = [.ref x, .ref t, g, r] ∧ H x = some (.ins CC dx []) ∧ TiesAt C H t ns ∧ Is H g sg ∧ Known H (items sg) ∧ Is H r sr ∧ ShAll H (items sr) ss ∧ (items sg).length ≤ 1000 ∧
  (∀ i u, dueC ns.length sg sr ss = some (i, u) → Tells2 H CB "index" "what" (.int i) (.str u) E) ∧ (dueC ns.length sg sr ss = none → ∀ (H' : Hp) (is : List Int) (tss : List (List Int)), (∀ b o, b ≠ x → H b = some o → H' b = some o) → items sg = is.map V.int → Asc is → tss.length = is.length → (∀ (j : Nat) (s : Sh) (ts : List Int), ss[j]? = some s → tss[j]? = some ts → items s = ts.map V.int) → CompAt C CC H' x ns is tss → Q .non H')
section
variable {P : Program} {w : World} {K : PySem.W.Frag} {mg : Str → Option Value} {base : Heap}
theorem ok_Company_init {f C CC CB fK fT : Addr} {fd fdK fdT : FuncData} {dvs : List V} (F : FunD K "__init__" "Company.__init__" (defArgs s_Company_init) (defBody s_Company_init) (defScope s_Company_init) dvs [] f fd) (c : CoC K CC) (nt : mg "tuple" = none) (ne : mg "enumerate" = none)
    (GK : Cal P w K mg base (L2.CX P w) 4 "_check_company" fK fdK ["ties", "guests", "rows"] (spCC C CB)) (GT : Cal P w K mg base CX0 1 "_table_of" fT fdT ["ties", "rows"] (spTable C)) : FnOk P w K mg base (L2.CX P w) 5 f fd ["self", "ties", "guests", "rows"] (spCompI C CC CB) := by
  refine F.ok sc_Company_init (fun vs H Q E h => ?_) (fun cdv A outer s H vs Q E hr h => ?_)
  · obtain ⟨x, dx, t, ns, g, r, sg, sr, ss, rfl, _⟩ := h
    rfl
  · obtain ⟨x, dx, t, ns, g, r, sg, sr, ss, rfl, hx, hT, hg, kg, hrr, hs, lg, k1, k2⟩ := h
    cases sg with
    | sc u =>
      refine ⟨_, (pss_cons 
  (ps_expr (pcal GK hr (passes_call (takes_of rfl rfl rfl rfl) (fun _ _ _ _ h => h)) (pa_cons (pv 1) (pa_cons (pv 2) (pa_cons (pv 3) pa_nil))))) (pss_cons 
  (ps_fld (pv 0) (pv 1) rfl) (pss_cons 
  (ps_fld (pv 0) (pe_callTy (T := "tuple") (r := rTup K) call_tuple_of (by rfl) nt (by decide +kernel) (pa_cons (pv 2) pa_nil)) rfl) (pss_cons 
  (ps_fld (pv 0) (pe_callTy (T := "tuple") (r := rTup K) call_tuple_of (by rfl) nt (by decide +kernel) (pa_cons (pe_lc (own := [("row", 4)]) (g := gName 4) (by rfl) sc_Company_init.nd (pi_list (pv 3)) (blkOk_by (own := [("row", 4)]) (N := ["self", "ties", "guests", "rows", "row", "place", "label"]) (sc := defScope s_Company_init) (by decide +kernel)) (fun _ _ _ _ _ => pg_name (i := 4) sc_Company_init.nd rfl (Or.inl rfl)) (fun _ _ _ _ _ => pts_nil) (fun _ _ _ _ _ => (pe_callTy (T := "tuple") (r := rTup K) call_tuple_of (by rfl) nt (by decide +kernel) (pa_cons (pv 4) pa_nil)))) pa_nil)) rfl) (pss_cons 
  (ps_fld (pv 0) (pcal GT hr pass0 (pa_cons (pv 1) (pa_cons (pe_fld (pv 0) rfl) pa_nil))) rfl) (pss_one 
  (ps_fld (pv 0) (pe_dc (own := [("place", 5), ("label", 6)]) (g := gTup K 2 (gCons (gName 5) (gCons (gName 6) gNil))) (by rfl) sc_Company_init.nd (pi_enumT (by rfl) ne (pa_cons (pe_fld (pv 0) rfl) pa_nil)) (blkOk_by (own := [("place", 5), ("label", 6)]) (N := ["self", "ties", "guests", "rows", "row", "place", "label"]) (sc := defScope s_Company_init) (by decide +kernel)) (fun _ _ _ _ _ => pg_tup (by rfl) (pgs_cons (pg_name (i := 5) sc_Company_init.nd rfl (Or.inl rfl)) (pgs_cons (pg_name (i := 6) sc_Company_init.nd rfl (Or.inl rfl)) pgs_nil))) (fun _ _ _ _ _ => pts_nil) (fun _ _ _ _ _ => pv 6) (fun _ _ _ _ _ => pv 5)) rfl))))))), ?_⟩
      exact ⟨_, rfl, _, rfl, _, rfl, t, ns, g, r, .sc u, sr, ss, rfl, hT, hg, kg, hrr, hs, lg, k1, fun hd => nomatch (goodC_of hd).sq⟩
    | dk =>
      refine ⟨_, (pss_cons 
  (ps_expr (pcal GK hr (passes_call (takes_of rfl rfl rfl rfl) (fun _ _ _ _ h => h)) (pa_cons (pv 1) (pa_cons (pv 2) (pa_cons (pv 3) pa_nil))))) (pss_cons 
  (ps_fld (pv 0) (pv 1) rfl) (pss_cons 
  (ps_fld (pv 0) (pe_callTy (T := "tuple") (r := rTup K) call_tuple_of (by rfl) nt (by decide +kernel) (pa_cons (pv 2) pa_nil)) rfl) (pss_cons 
  (ps_fld (pv 0) (pe_callTy (T := "tuple") (r := rTup K) call_tuple_of (by rfl) nt (by decide +kernel) (pa_cons (pe_lc (own := [("row", 4)]) (g := gName 4) (by rfl) sc_Company_init.nd (pi_list (pv 3)) (blkOk_by (own := [("row", 4)]) (N := ["self", "ties", "guests", "rows", "row", "place", "label"]) (sc := defScope s_Company_init) (by decide +kernel)) (fun _ _ _ _ _ => pg_name (i := 4) sc_Company_init.nd rfl (Or.inl rfl)) (fun _ _ _ _ _ => pts_nil) (fun _ _ _ _ _ => (pe_callTy (T := "tuple") (r := rTup K) call_tuple_of (by rfl) nt (by decide +kernel) (pa_cons (pv 4) pa_nil)))) pa_nil)) rfl) (pss_cons 
  (ps_fld (pv 0) (pcal GT hr pass0 (pa_cons (pv 1) (pa_cons (pe_fld (pv 0) rfl) pa_nil))) rfl) (pss_one 
  (ps_fld (pv 0) (pe_dc (own := [("place", 5), ("label", 6)]) (g := gTup K 2 (gCons (gName 5) (gCons (gName 6) gNil))) (by rfl) sc_Company_init.nd (pi_enumT (by rfl) ne (pa_cons (pe_fld (pv 0) rfl) pa_nil)) (blkOk_by (own := [("place", 5), ("label", 6)]) (N := ["self", "ties", "guests", "rows", "row", "place", "label"]) (sc := defScope s_Company_init) (by decide +kernel)) (fun _ _ _ _ _ => pg_tup (by rfl) (pgs_cons (pg_name (i := 5) sc_Company_init.nd rfl (Or.inl rfl)) (pgs_cons (pg_name (i := 6) sc_Company_init.nd rfl (Or.inl rfl)) pgs_nil))) (fun _ _ _ _ _ => pts_nil) (fun _ _ _ _ _ => pv 6) (fun _ _ _ _ _ => pv 5)) rfl))))))), ?_⟩
      exact ⟨_, rfl, _, rfl, _, rfl, t, ns, g, r, .dk, sr, ss, rfl, hT, hg, kg, hrr, hs, lg, k1, fun hd => nomatch (goodC_of hd).sq⟩
    | lst gs =>
      cases sr with
      | sc u =>
        refine ⟨_, (pss_cons 
  (ps_expr (pcal GK hr (passes_call (takes_of rfl rfl rfl rfl) (fun _ _ _ _ h => h)) (pa_cons (pv 1) (pa_cons (pv 2) (pa_cons (pv 3) pa_nil))))) (pss_cons 
  (ps_fld (pv 0) (pv 1) rfl) (pss_cons 
  (ps_fld (pv 0) (pe_callTy (T := "tuple") (r := rTup K) call_tuple_of (by rfl) nt (by decide +kernel) (pa_cons (pv 2) pa_nil)) rfl) (pss_cons 
  (ps_fld (pv 0) (pe_callTy (T := "tuple") (r := rTup K) call_tuple_of (by rfl) nt (by decide +kernel) (pa_cons (pe_lc (own := [("row", 4)]) (g := gName 4) (by rfl) sc_Company_init.nd (pi_list (pv 3)) (blkOk_by (own := [("row", 4)]) (N := ["self", "ties", "guests", "rows", "row", "place", "label"]) (sc := defScope s_Company_init) (by decide +kernel)) (fun _ _ _ _ _ => pg_name (i := 4) sc_Company_init.nd rfl (Or.inl rfl)) (fun _ _ _ _ _ => pts_nil) (fun _ _ _ _ _ => (pe_callTy (T := "tuple") (r := rTup K) call_tuple_of (by rfl) nt (by decide +kernel) (pa_cons (pv 4) pa_nil)))) pa_nil)) rfl) (pss_cons 
  (ps_fld (pv 0) (pcal GT hr pass0 (pa_cons (pv 1) (pa_cons (pe_fld (pv 0) rfl) pa_nil))) rfl) (pss_one 
  (ps_fld (pv 0) (pe_dc (own := [("place", 5), ("label", 6)]) (g := gTup K 2 (gCons (gName 5) (gCons (gName 6) gNil))) (by rfl) sc_Company_init.nd (pi_enumT (by rfl) ne (pa_cons (pe_fld (pv 0) rfl) pa_nil)) (blkOk_by (own := [("place", 5), ("label", 6)]) (N := ["self", "ties", "guests", "rows", "row", "place", "label"]) (sc := defScope s_Company_init) (by decide +kernel)) (fun _ _ _ _ _ => pg_tup (by rfl) (pgs_cons (pg_name (i := 5) sc_Company_init.nd rfl (Or.inl rfl)) (pgs_cons (pg_name (i := 6) sc_Company_init.nd rfl (Or.inl rfl)) pgs_nil))) (fun _ _ _ _ _ => pts_nil) (fun _ _ _ _ _ => pv 6) (fun _ _ _ _ _ => pv 5)) rfl))))))), ?_⟩
        exact ⟨_, rfl, _, rfl, _, rfl, t, ns, _, _, .lst gs, .sc u, ss, rfl, hT, hg, kg, hrr, hs, lg, k1, fun hd => nomatch (goodC_of hd).sq⟩
      | dk =>
        refine ⟨_, (pss_cons 
  (ps_expr (pcal GK hr (passes_call (takes_of rfl rfl rfl rfl) (fun _ _ _ _ h => h)) (pa_cons (pv 1) (pa_cons (pv 2) (pa_cons (pv 3) pa_nil))))) (pss_cons 
  (ps_fld (pv 0) (pv 1) rfl) (pss_cons 
  (ps_fld (pv 0) (pe_callTy (T := "tuple") (r := rTup K) call_tuple_of (by rfl) nt (by decide +kernel) (pa_cons (pv 2) pa_nil)) rfl) (pss_cons 
  (ps_fld (pv 0) (pe_callTy (T := "tuple") (r := rTup K) call_tuple_of (by rfl) nt (by decide +kernel) (pa_cons (pe_lc (own := [("row", 4)]) (g := gName 4) (by rfl) sc_Company_init.nd (pi_list (pv 3)) (blkOk_by (own := [("row", 4)]) (N := ["self", "ties", "guests", "rows", "row", "place", "label"]) (sc := defScope s_Company_init) (by decide +kernel)) (fun _ _ _ _ _ => pg_name (i := 4) sc_Company_init.nd rfl (Or.inl rfl)) (fun _ _ _ _ _ => pts_nil) (fun _ _ _ _ _ => (pe_callTy (T := "tuple") (r := rTup K) call_tuple_of (by rfl) nt (by decide +kernel) (pa_cons (pv 4) pa_nil)))) pa_nil)) rfl) (pss_cons 
  (ps_fld (pv 0) (pcal GT hr pass0 (pa_cons (pv 1) (pa_cons (pe_fld (pv 0) rfl) pa_nil))) rfl) (pss_one 
  (ps_fld (pv 0) (pe_dc (own := [("place", 5), ("label", 6)]) (g := gTup K 2 (gCons (gName 5) (gCons (gName 6) gNil))) (by rfl) sc_Company_init.nd (pi_enumT (by rfl) ne (pa_cons (pe_fld (pv 0) rfl) pa_nil)) (blkOk_by (own := [("place", 5), ("label", 6)]) (N := ["self", "ties", "guests", "rows", "row", "place", "label"]) (sc := defScope s_Company_init) (by decide +kernel)) (fun _ _ _ _ _ => pg_tup (by rfl) (pgs_cons (pg_name (i := 5) sc_Company_init.nd rfl (Or.inl rfl)) (pgs_cons (pg_name (i := 6) sc_Company_init.nd rfl (Or.inl rfl)) pgs_nil))) (fun _ _ _ _ _ => pts_nil) (fun _ _ _ _ _ => pv 6) (fun _ _ _ _ _ => pv 5)) rfl))))))), ?_⟩
        exact ⟨_, rfl, _, rfl, _, rfl, t, ns, _, _, .lst gs, .dk, ss, rfl, hT, hg, kg, hrr, hs, lg, k1, fun hd => nomatch (goodC_of hd).sq⟩
      | lst rs =>
        obtain ⟨pg, rfl, hp⟩ := hg
        obtain ⟨pr, rfl, hq⟩ := hrr
        refine ⟨_, (pss_cons 
    (ps_expr (pcal GK hr (passes_call (takes_of rfl rfl rfl rfl) (fun _ _ _ _ h => h)) (pa_cons (pv 1) (pa_cons (pv 2) (pa_cons (pv 3) pa_nil))))) (pss_cons 
    (ps_fld (pv 0) (pv 1) rfl) (pss_cons 
    (ps_fld (pv 0) (pe_callTy (T := "tuple") (r := rTup K) call_tuple_of (by rfl) nt (by decide +kernel) (pa_cons (pv 2) pa_nil)) rfl) (pss_cons 
    (ps_fld (pv 0) (pe_callTy (T := "tuple") (r := rTup K) call_tuple_of (by rfl) nt (by decide +kernel) (pa_cons (pe_lc (own := [("row", 4)]) (g := gName 4) (by rfl) sc_Company_init.nd (pi_list (pv 3)) (blkOk_by (own := [("row", 4)]) (N := ["self", "ties", "guests", "rows", "row", "place", "label"]) (sc := defScope s_Company_init) (by decide +kernel)) (fun _ _ _ _ _ => pg_name (i := 4) sc_Company_init.nd rfl (Or.inl rfl)) (fun _ _ _ _ _ => pts_nil) (fun _ _ _ _ _ => (pe_callTy (T := "tuple") (r := rTup K) call_tuple_of (by rfl) nt (by decide +kernel) (pa_cons (pv 4) pa_nil)))) pa_nil)) rfl) (pss_cons 
    (ps_fld (pv 0) (pcal GT hr pass0 (pa_cons (pv 1) (pa_cons (pe_fld (pv 0) rfl) pa_nil))) rfl) (pss_one 
    (ps_fld (pv 0) (pe_dc (own := [("place", 5), ("label", 6)]) (g := gTup K 2 (gCons (gName 5) (gCons (gName 6) gNil))) (by rfl) sc_Company_init.nd (pi_enumT (by rfl) ne (pa_cons (pe_fld (pv 0) rfl) pa_nil)) (blkOk_by (own := [("place", 5), ("label", 6)]) (N := ["self", "ties", "guests", "rows", "row", "place", "label"]) (sc := defScope s_Company_init) (by decide +kernel)) (fun _ _ _ _ _ => pg_tup (by rfl) (pgs_cons (pg_name (i := 5) sc_Company_init.nd rfl (Or.inl rfl)) (pgs_cons (pg_name (i := 6) sc_Company_init.nd rfl (Or.inl rfl)) pgs_nil))) (fun _ _ _ _ _ => pts_nil) (fun _ _ _ _ _ => pv 6) (fun _ _ _ _ _ => pv 5)) rfl))))))), ?_⟩
        refine ⟨_, rfl, _, rfl, _, rfl, t, ns, _, _, Sh.lst gs, Sh.lst rs, ss, rfl, hT, ⟨pg, rfl, hp⟩, kg, ⟨pr, rfl, hq⟩, hs, lg, k1, fun hd H1 S1 => ?_⟩
        have G := goodC_of hd
        have hx1 := S1 _ _ hx
        have hp1 := S1 _ _ hp
        have hq1 := S1 _ _ hq
        have hT1 := hT.keep S1
        obtain ⟨is, kin⟩ := G.ints
        have asc := G.asc kin
        have labs := G.labels kin
        have kin' : gs = is.map V.int := kin
        have gful : gs.length ≤ ss.length := G.full
        obtain ⟨tss, tlen, htss⟩ : ∃ tss : List (List Int), tss.length = ss.length ∧ ∀ (j : Nat) (s : Sh) (ts : List Int), ss[j]? = some s → tss[j]? = some ts → items s = ts.map V.int ∧ ts.length = j ∧ ∀ t ∈ ts, 0 ≤ t ∧ t < (ns.length : Nat) := G.tss (by show ss.length ≤ gs.length; have := hs.len; have := G.ln; have : rs.length ≤ gs.length := G.ln; have : rs.length = ss.length := hs.len; omega)
        have gle : gs.length ≤ 60 := G.le
        have rle : rs.length ≤ gs.length := G.ln
        have npg : pg ≠ x := ne_of hp hx (by intro z; cases z)
        have sl : rs.length = ss.length := hs.len
        -- self.ties
        refine ⟨_, rfl, _, rfl, x, CC, dx, [], rfl, hx1, c.cl, c.nT, (by decide), ?_⟩
        have hx2 : (upd H1 x (.ins CC dx (putF "ties" (.ref t) []))) x = some (.ins CC dx (f1 t)) := upd_same
        have B2 : ∀ b o, b ≠ x → H b = some o → (upd H1 x (.ins CC dx (putF "ties" (.ref t) []))) b = some o := fun b o nb eb => by rw [upd_ne nb]; exact S1 _ _ eb
        have hp2 := B2 _ _ npg hp
        -- self.guests
        refine ⟨_, rfl, pg, gs, rfl, .inl ⟨SqL.of hp2, fun ga hga => ?_⟩⟩
        have nga : ga ≠ x := (ne_of_none hx2 hga).symm
        refine ⟨_, rfl, x, CC, dx, _, rfl, (by rw [upd_ne nga.symm]; exact hx2), c.cl, c.nG, l1 t, ?_⟩
        have hx3 : (upd (upd (upd H1 x (.ins CC dx (putF "ties" (.ref t) []))) ga (.tup gs)) x (.ins CC dx (putF "guests" (.ref ga) (f1 t)))) x = some (.ins CC dx (f2 t ga)) := upd_same
        have hg3 : (upd (upd (upd H1 x (.ins CC dx (putF "ties" (.ref t) []))) ga (.tup gs)) x (.ins CC dx (putF "guests" (.ref ga) (f1 t)))) ga = some (.tup gs) := by rw [upd_ne nga, upd_same]
        have B3 : ∀ b o, b ≠ x → H b = some o → (upd (upd (upd H1 x (.ins CC dx (putF "ties" (.ref t) []))) ga (.tup gs)) x (.ins CC dx (putF "guests" (.ref ga) (f1 t)))) b = some o := fun b o nb eb => by
          have e := B2 b o nb eb
          rw [upd_ne nb, upd_ne (ne_of_none e hga)]
          exact e
        generalize upd (upd (upd H1 x (.ins CC dx (putF "ties" (.ref t) []))) ga (.tup gs)) x (.ins CC dx (putF "guests" (.ref ga) (f1 t))) = H3 at hx3 hg3 B3
        -- self.rows
        have hq3 := B3 _ _ (ne_of hq hx (by intro z; cases z)) hq
        refine ⟨_, rfl, pr, rfl, ⟨_, SqL.of hq3⟩, fun D hD => ?_⟩
        refine lc_list (K := K) (a := pr) (xs := rs) (fun i H4 => Same H3 H4 ∧ H3 D = none ∧ ∃ ps : List Addr, ps.length = i ∧ H4 D = some (.lst (ps.map V.ref)) ∧ ∀ (j : Nat) (a : Addr) (s : Sh), ps[j]? = some a → ss[j]? = some s → H4 a = some (.tup (items s)))
          ⟨new_same hD, hD, [], rfl, upd_same, fun j a s e => nomatch e⟩ (fun i H4 _ ⟨S4, _⟩ => SqL.of (S4 _ _ hq3)) ?_ ?_
        · rintro i y H4 hy ⟨S4, D0, ps, pl, eD, hps⟩
          have hi : i < rs.length := (List.getElem?_eq_some_iff.mp hy).1
          obtain ⟨s, es, isy, _⟩ := hs.at_ hy
          obtain ⟨s', es', ew⟩ := G.row (j := i) (by show i < gs.length; omega)
          obtain rfl : s = s' := by rw [es] at es'; exact Option.some.inj es'
          obtain ⟨sq, _⟩ := rowW_good ew
          refine ⟨rfl, yesT ?_⟩
          have put : ∀ (H5 : Hp) (z : Addr), Same H4 H5 → H5 z = some (.tup (items s)) → ∃ acc : List V, H5 D = some (.lst acc) ∧ acc.length < sizeLine ∧ Same H3 (upd H5 D (.lst (acc ++ [.ref z]))) ∧ H3 D = none ∧ ∃ ps : List Addr, ps.length = i + 1 ∧ (upd H5 D (.lst (acc ++ [.ref z]))) D = some (.lst (ps.map V.ref)) ∧ ∀ (j : Nat) (a : Addr) (s : Sh), ps[j]? = some a → ss[j]? = some s → (upd H5 D (.lst (acc ++ [.ref z]))) a = some (.tup (items s)) := fun H5 z S5 ez => by
            refine ⟨_, S5 _ _ eD, by rw [List.length_map, pl]; show i < 16777216; omega, fun b o eb => ?_, D0, ps ++ [z], by rw [List.length_append, pl]; rfl, by rw [upd_same, List.map_append]; rfl, fun j a s2 ea e2 => ?_⟩
            · rw [upd_ne (ne_of_none eb D0)]
              exact S5 _ _ (S4 _ _ eb)
            · rcases Nat.lt_or_ge j ps.length with hj | hj
              · rw [List.getElem?_append_left hj] at ea
                have q := S5 _ _ (hps j a s2 ea e2)
                rw [upd_ne (ne_of q (S5 _ _ eD) (by intro z; cases z))]
                exact q
              · have hj2 : j = i := by
                  have := (List.getElem?_eq_some_iff.mp ea).1
                  rw [List.length_append] at this
                  have l : [z].length = 1 := rfl
                  omega
                subst hj2
                rw [← pl, List.getElem?_append_right (Nat.le_refl _), Nat.sub_self] at ea
                obtain rfl : z = a := Option.some.inj ea
                obtain rfl : s = s2 := by rw [es] at e2; exact Option.some.inj e2
                rw [upd_ne (ne_of ez (S5 _ _ eD) (by intro z; cases z))]
                exact ez
          cases s with
          | sc u => cases sq
          | dk => cases sq
          | lst ys =>
            obtain ⟨a, rfl, ea⟩ := isy
            refine ⟨_, rfl, a, ys, rfl, .inl ⟨SqL.of (S4 _ _ (B3 _ _ (ne_of ea hx (by intro z; cases z)) ea)), fun z hz => ?_⟩⟩
            exact put _ z (new_same hz) upd_same
          | tup ys =>
            obtain ⟨a, rfl, ea⟩ := isy
            have ea4 := S4 _ _ (B3 _ _ (ne_of ea hx (by intro z; cases z)) ea)
            exact ⟨_, rfl, a, ys, rfl, .inr ⟨SqT.of ea4, put _ a (Same.refl _) ea4⟩⟩
        · rintro H4 ⟨S4, D0, ps, pl, eD, hps⟩
          refine ⟨D, _, rfl, .inl ⟨SqL.of eD, fun ra hra => ?_⟩⟩
          have hx4 := S4 _ _ hx3
          have nra : ra ≠ x := (ne_of_none hx4 hra).symm
          refine ⟨_, rfl, x, CC, dx, _, rfl, (by rw [upd_ne nra.symm]; exact hx4), c.cl, c.nR, l2 t ga, ?_⟩
          have hx5 : (upd (upd H4 ra (.tup (ps.map V.ref))) x (.ins CC dx (putF "rows" (.ref ra) (f2 t ga)))) x = some (.ins CC dx (f3 t ga ra)) := upd_same
          have hr5 : (upd (upd H4 ra (.tup (ps.map V.ref))) x (.ins CC dx (putF "rows" (.ref ra) (f2 t ga)))) ra = some (.tup (ps.map V.ref)) := by rw [upd_ne nra, upd_same]
          have C5 : ∀ b o, b ≠ x → H4 b = some o → (upd (upd H4 ra (.tup (ps.map V.ref))) x (.ins CC dx (putF "rows" (.ref ra) (f2 t ga)))) b = some o := fun b o nb eb => by
            rw [upd_ne nb, upd_ne (ne_of_none eb hra)]
            exact eb
          generalize upd (upd H4 ra (.tup (ps.map V.ref))) x (.ins CC dx (putF "rows" (.ref ra) (f2 t ga))) = H5 at hx5 hr5 C5
          have B5 : ∀ b o, b ≠ x → H b = some o → H5 b = some o := fun b o nb eb => C5 b o nb (S4 _ _ (B3 b o nb eb))
          have hg5 := C5 _ _ (ne_of hg3 hx3 (by intro z; cases z)) (S4 _ _ hg3)
          have rows5 : ∀ (j : Nat) (a : Addr) (s : Sh), ps[j]? = some a → ss[j]? = some s → H5 a = some (.tup (items s)) := fun j a s ea e2 => by
            have q := hps j a s ea e2
            exact C5 _ _ (ne_of q hx4 (by intro z; cases z)) q
          have hT5 := hT.but hx B5
          have R5 : RowsAt H5 ra ns.length ps tss := ⟨hr5, by omega, fun j a ts ea ets => by
            have hj : j < ps.length := (List.getElem?_eq_some_iff.mp ea).1
            have es := List.getElem?_eq_getElem (l := ss) (i := j) (by omega)
            obtain ⟨e1, e2, e3⟩ := htss j _ ts es ets
            exact ⟨by rw [← e1]; exact rows5 j a _ ea es, e2, e3⟩⟩
          -- self.table
          refine ⟨_, rfl, _, rfl, x, CC, dx, _, _, rfl, hx5, c.cl, c.nR, f3_rows t ga ra, t, ra, ns, ps, tss, rfl, hT5, R5, by omega, fun H6 z S6 _ e6 => ?_⟩
          have hx6 := S6 _ _ hx5
          refine ⟨_, rfl, x, CC, dx, _, rfl, hx6, c.cl, c.nB, l3 t ga ra, ?_⟩
          have hx7 : (upd H6 x (.ins CC dx (putF "table" (.ref z) (f3 t ga ra)))) x = some (.ins CC dx (f4 t ga ra z)) := upd_same
          have C67 : ∀ b o, b ≠ x → H6 b = some o → (upd H6 x (.ins CC dx (putF "table" (.ref z) (f3 t ga ra)))) b = some o := fun b o nb eb => by
            rw [upd_ne nb]
            exact eb
          have C7 : ∀ b o, b ≠ x → H5 b = some o → (upd H6 x (.ins CC dx (putF "table" (.ref z) (f3 t ga ra)))) b = some o := fun b o nb eb => by
            rw [upd_ne nb]
            exact S6 _ _ eb
          generalize upd H6 x (.ins CC dx (putF "table" (.ref z) (f3 t ga ra))) = H7 at hx7 C7 C67
          have hg7 := C7 _ _ (ne_of hg5 hx5 (by intro z; cases z)) hg5
          have hr7 := C7 _ _ (ne_of hr5 hx5 (by intro z; cases z)) hr5
          -- self._places
          refine ⟨_, rfl, x, CC, dx, _, _, rfl, hx7, c.cl, c.nG, f4_guests t ga ra z, ga, gs, rfl, SqT.of hg7, fun D2 hD2 => ?_⟩
          refine dc_enumT (K := K) (a := ga) (xs := gs) (fun i H8 => Same H7 H8 ∧ H7 D2 = none ∧ ∃ kvs : List (Key × V), kvs.length ≤ i ∧ H8 D2 = some (.dK kvs) ∧ ∀ k, valV kvs k = place (is.take i) k) ⟨new_same hD2, hD2, [], Nat.le_refl _, upd_same, fun k => by cases k <;> rfl⟩ (fun i H8 _ ⟨S8, _⟩ => SqT.of (S8 _ _ hg7)) ?_ ?_
          · rintro i y H8 T hy ⟨S8, D0', kvs, kl, eK, vK⟩ hT8
            have hi : i < gs.length := (List.getElem?_eq_some_iff.mp hy).1
            obtain ⟨n, hn, rfl⟩ : ∃ n, is[i]? = some n ∧ y = V.int n := by
              rw [kin', List.getElem?_map] at hy
              cases e : is[i]? with
              | none => rw [e] at hy; cases hy
              | some n => rw [e] at hy; exact ⟨n, rfl, (Option.some.inj hy).symm⟩
            refine ⟨T, _, rfl, SqT.of upd_same, rfl, _, _, rfl, _, _, rfl, rfl, rfl, yesT ?_⟩
            refine ⟨_, rfl, _, rfl, kvs, .inl n, rfl, by rw [upd_ne (ne_of_none eK hT8)]; exact eK, by show kvs.length < 16777216; omega, fun b o eb => ?_, D0', _, Nat.le_trans (length_putK _ _ _) (by omega), upd_same, fun k => ?_⟩
            · rw [upd_ne (ne_of_none eb D0'), upd_ne (ne_of_none (S8 _ _ eb) hT8)]
              exact S8 _ _ eb
            · rw [valV_put, place_next hn asc, vK]
          · rintro H8 ⟨S8, D0', kvs, kl, eK, vK⟩
            have hx8 := S8 _ _ hx7
            have ln : is.length = gs.length := by rw [kin', List.length_map]
            rw [show is.take gs.length = is from by rw [← ln, List.take_length]] at vK
            refine ⟨_, rfl, x, CC, dx, _, rfl, hx8, c.cl, c.nP, l4 t ga ra z, ?_⟩
            have C9 : ∀ b o, b ≠ x → H5 b = some o → (upd H8 x (.ins CC dx (putF "_places" (.ref D2) (f4 t ga ra z)))) b = some o := fun b o nb eb => by
              rw [upd_ne nb]
              exact S8 _ _ (C7 b o nb eb)
            have B9 : ∀ b o, b ≠ x → H b = some o → (upd H8 x (.ins CC dx (putF "_places" (.ref D2) (f4 t ga ra z)))) b = some o := fun b o nb eb => C9 b o nb (B5 b o nb eb)
            have D9 : ∀ b o, b ≠ x → H6 b = some o → (upd H8 x (.ins CC dx (putF "_places" (.ref D2) (f4 t ga ra z)))) b = some o := fun b o nb eb => by
              rw [upd_ne nb]
              exact S8 _ _ (C67 b o nb eb)
            refine k2 hd _ is tss B9 kin asc (by rw [tlen]; omega) (fun j s ts e1 e2 => (htss j s ts e1 e2).1) ⟨dx, t, ga, ra, z, D2, ps, kvs, upd_same, hT.but hx B9, (by rw [← show gs = is.map V.int from kin]; exact C9 _ _ (ne_of hg5 hx5 (by intro z; cases z)) hg5), ⟨C9 _ _ (ne_of hr5 hx5 (by intro z; cases z)) hr5, R5.2.1, fun j a ts ea ets => ?_⟩, ?_, (by rw [upd_ne (ne_of eK hx8 (by intro z; cases z))]; exact eK), vK, asc, by rw [tlen]; omega, by omega, labs⟩
            · obtain ⟨q1, q2⟩ := R5.2.2 j a ts ea ets
              exact ⟨C9 _ _ (ne_of q1 hx5 (by intro z; cases z)) q1, q2⟩
            · obtain ⟨us, u1, u2, u3⟩ := e6
              refine ⟨us, D9 _ _ (ne_of u1 hx6 (by intro z; cases z)) u1, u2, fun a u e => ?_⟩
              obtain ⟨xs, w1, w2⟩ := u3 a u e
              exact ⟨xs, D9 _ _ (ne_of w1 hx6 (by intro z; cases z)) w1, w2⟩
      | tup rs =>
        obtain ⟨pg, rfl, hp⟩ := hg
        obtain ⟨pr, rfl, hq⟩ := hrr
        refine ⟨_, (pss_cons 
    (ps_expr (pcal GK hr (passes_call (takes_of rfl rfl rfl rfl) (fun _ _ _ _ h => h)) (pa_cons (pv 1) (pa_cons (pv 2) (pa_cons (pv 3) pa_nil))))) (pss_cons 
    (ps_fld (pv 0) (pv 1) rfl) (pss_cons 
    (ps_fld (pv 0) (pe_callTy (T := "tuple") (r := rTup K) call_tuple_of (by rfl) nt (by decide +kernel) (pa_cons (pv 2) pa_nil)) rfl) (pss_cons 
    (ps_fld (pv 0) (pe_callTy (T := "tuple") (r := rTup K) call_tuple_of (by rfl) nt (by decide +kernel) (pa_cons (pe_lc (own := [("row", 4)]) (g := gName 4) (by rfl) sc_Company_init.nd (pi_tup (pv 3)) (blkOk_by (own := [("row", 4)]) (N := ["self", "ties", "guests", "rows", "row", "place", "label"]) (sc := defScope s_Company_init) (by decide +kernel)) (fun _ _ _ _ _ => pg_name (i := 4) sc_Company_init.nd rfl (Or.inl rfl)) (fun _ _ _ _ _ => pts_nil) (fun _ _ _ _ _ => (pe_callTy (T := "tuple") (r := rTup K) call_tuple_of (by rfl) nt (by decide +kernel) (pa_cons (pv 4) pa_nil)))) pa_nil)) rfl) (pss_cons 
    (ps_fld (pv 0) (pcal GT hr pass0 (pa_cons (pv 1) (pa_cons (pe_fld (pv 0) rfl) pa_nil))) rfl) (pss_one 
    (ps_fld (pv 0) (pe_dc (own := [("place", 5), ("label", 6)]) (g := gTup K 2 (gCons (gName 5) (gCons (gName 6) gNil))) (by rfl) sc_Company_init.nd (pi_enumT (by rfl) ne (pa_cons (pe_fld (pv 0) rfl) pa_nil)) (blkOk_by (own := [("place", 5), ("label", 6)]) (N := ["self", "ties", "guests", "rows", "row", "place", "label"]) (sc := defScope s_Company_init) (by decide +kernel)) (fun _ _ _ _ _ => pg_tup (by rfl) (pgs_cons (pg_name (i := 5) sc_Company_init.nd rfl (Or.inl rfl)) (pgs_cons (pg_name (i := 6) sc_Company_init.nd rfl (Or.inl rfl)) pgs_nil))) (fun _ _ _ _ _ => pts_nil) (fun _ _ _ _ _ => pv 6) (fun _ _ _ _ _ => pv 5)) rfl))))))), ?_⟩
        refine ⟨_, rfl, _, rfl, _, rfl, t, ns, _, _, Sh.lst gs, Sh.tup rs, ss, rfl, hT, ⟨pg, rfl, hp⟩, kg, ⟨pr, rfl, hq⟩, hs, lg, k1, fun hd H1 S1 => ?_⟩
        have G := goodC_of hd
        have hx1 := S1 _ _ hx
        have hp1 := S1 _ _ hp
        have hq1 := S1 _ _ hq
        have hT1 := hT.keep S1
        obtain ⟨is, kin⟩ := G.ints
        have asc := G.asc kin
        have labs := G.labels kin
        have kin' : gs = is.map V.int := kin
        have gful : gs.length ≤ ss.length := G.full
        obtain ⟨tss, tlen, htss⟩ : ∃ tss : List (List Int), tss.length = ss.length ∧ ∀ (j : Nat) (s : Sh) (ts : List Int), ss[j]? = some s → tss[j]? = some ts → items s = ts.map V.int ∧ ts.length = j ∧ ∀ t ∈ ts, 0 ≤ t ∧ t < (ns.length : Nat) := G.tss (by show ss.length ≤ gs.length; have := hs.len; have := G.ln; have : rs.length ≤ gs.length := G.ln; have : rs.length = ss.length := hs.len; omega)
        have gle : gs.length ≤ 60 := G.le
        have rle : rs.length ≤ gs.length := G.ln
        have npg : pg ≠ x := ne_of hp hx (by intro z; cases z)
        have sl : rs.length = ss.length := hs.len
        -- self.ties
        refine ⟨_, rfl, _, rfl, x, CC, dx, [], rfl, hx1, c.cl, c.nT, (by decide), ?_⟩
        have hx2 : (upd H1 x (.ins CC dx (putF "ties" (.ref t) []))) x = some (.ins CC dx (f1 t)) := upd_same
        have B2 : ∀ b o, b ≠ x → H b = some o → (upd H1 x (.ins CC dx (putF "ties" (.ref t) []))) b = some o := fun b o nb eb => by rw [upd_ne nb]; exact S1 _ _ eb
        have hp2 := B2 _ _ npg hp
        -- self.guests
        refine ⟨_, rfl, pg, gs, rfl, .inl ⟨SqL.of hp2, fun ga hga => ?_⟩⟩
        have nga : ga ≠ x := (ne_of_none hx2 hga).symm
        refine ⟨_, rfl, x, CC, dx, _, rfl, (by rw [upd_ne nga.symm]; exact hx2), c.cl, c.nG, l1 t, ?_⟩
        have hx3 : (upd (upd (upd H1 x (.ins CC dx (putF "ties" (.ref t) []))) ga (.tup gs)) x (.ins CC dx (putF "guests" (.ref ga) (f1 t)))) x = some (.ins CC dx (f2 t ga)) := upd_same
        have hg3 : (upd (upd (upd H1 x (.ins CC dx (putF "ties" (.ref t) []))) ga (.tup gs)) x (.ins CC dx (putF "guests" (.ref ga) (f1 t)))) ga = some (.tup gs) := by rw [upd_ne nga, upd_same]
        have B3 : ∀ b o, b ≠ x → H b = some o → (upd (upd (upd H1 x (.ins CC dx (putF "ties" (.ref t) []))) ga (.tup gs)) x (.ins CC dx (putF "guests" (.ref ga) (f1 t)))) b = some o := fun b o nb eb => by
          have e := B2 b o nb eb
          rw [upd_ne nb, upd_ne (ne_of_none e hga)]
          exact e
        generalize upd (upd (upd H1 x (.ins CC dx (putF "ties" (.ref t) []))) ga (.tup gs)) x (.ins CC dx (putF "guests" (.ref ga) (f1 t))) = H3 at hx3 hg3 B3
        -- self.rows
        have hq3 := B3 _ _ (ne_of hq hx (by intro z; cases z)) hq
        refine ⟨_, rfl, pr, rfl, ⟨_, SqT.of hq3⟩, fun D hD => ?_⟩
        refine lc_tup (K := K) (a := pr) (xs := rs) (fun i H4 => Same H3 H4 ∧ H3 D = none ∧ ∃ ps : List Addr, ps.length = i ∧ H4 D = some (.lst (ps.map V.ref)) ∧ ∀ (j : Nat) (a : Addr) (s : Sh), ps[j]? = some a → ss[j]? = some s → H4 a = some (.tup (items s)))
          ⟨new_same hD, hD, [], rfl, upd_same, fun j a s e => nomatch e⟩ (fun i H4 _ ⟨S4, _⟩ => SqT.of (S4 _ _ hq3)) ?_ ?_
        · rintro i y H4 hy ⟨S4, D0, ps, pl, eD, hps⟩
          have hi : i < rs.length := (List.getElem?_eq_some_iff.mp hy).1
          obtain ⟨s, es, isy, _⟩ := hs.at_ hy
          obtain ⟨s', es', ew⟩ := G.row (j := i) (by show i < gs.length; omega)
          obtain rfl : s = s' := by rw [es] at es'; exact Option.some.inj es'
          obtain ⟨sq, _⟩ := rowW_good ew
          refine ⟨rfl, yesT ?_⟩
          have put : ∀ (H5 : Hp) (z : Addr), Same H4 H5 → H5 z = some (.tup (items s)) → ∃ acc : List V, H5 D = some (.lst acc) ∧ acc.length < sizeLine ∧ Same H3 (upd H5 D (.lst (acc ++ [.ref z]))) ∧ H3 D = none ∧ ∃ ps : List Addr, ps.length = i + 1 ∧ (upd H5 D (.lst (acc ++ [.ref z]))) D = some (.lst (ps.map V.ref)) ∧ ∀ (j : Nat) (a : Addr) (s : Sh), ps[j]? = some a → ss[j]? = some s → (upd H5 D (.lst (acc ++ [.ref z]))) a = some (.tup (items s)) := fun H5 z S5 ez => by
            refine ⟨_, S5 _ _ eD, by rw [List.length_map, pl]; show i < 16777216; omega, fun b o eb => ?_, D0, ps ++ [z], by rw [List.length_append, pl]; rfl, by rw [upd_same, List.map_append]; rfl, fun j a s2 ea e2 => ?_⟩
            · rw [upd_ne (ne_of_none eb D0)]
              exact S5 _ _ (S4 _ _ eb)
            · rcases Nat.lt_or_ge j ps.length with hj | hj
              · rw [List.getElem?_append_left hj] at ea
                have q := S5 _ _ (hps j a s2 ea e2)
                rw [upd_ne (ne_of q (S5 _ _ eD) (by intro z; cases z))]
                exact q
              · have hj2 : j = i := by
                  have := (List.getElem?_eq_some_iff.mp ea).1
                  rw [List.length_append] at this
                  have l : [z].length = 1 := rfl
                  omega
                subst hj2
                rw [← pl, List.getElem?_append_right (Nat.le_refl _), Nat.sub_self] at ea
                obtain rfl : z = a := Option.some.inj ea
                obtain rfl : s = s2 := by rw [es] at e2; exact Option.some.inj e2
                rw [upd_ne (ne_of ez (S5 _ _ eD) (by intro z; cases z))]
                exact ez
          cases s with
          | sc u => cases sq
          | dk => cases sq
          | lst ys =>
            obtain ⟨a, rfl, ea⟩ := isy
            refine ⟨_, rfl, a, ys, rfl, .inl ⟨SqL.of (S4 _ _ (B3 _ _ (ne_of ea hx (by intro z; cases z)) ea)), fun z hz => ?_⟩⟩
            exact put _ z (new_same hz) upd_same
          | tup ys =>
            obtain ⟨a, rfl, ea⟩ := isy
            have ea4 := S4 _ _ (B3 _ _ (ne_of ea hx (by intro z; cases z)) ea)
            exact ⟨_, rfl, a, ys, rfl, .inr ⟨SqT.of ea4, put _ a (Same.refl _) ea4⟩⟩
        · rintro H4 ⟨S4, D0, ps, pl, eD, hps⟩
          refine ⟨D, _, rfl, .inl ⟨SqL.of eD, fun ra hra => ?_⟩⟩
          have hx4 := S4 _ _ hx3
          have nra : ra ≠ x := (ne_of_none hx4 hra).symm
          refine ⟨_, rfl, x, CC, dx, _, rfl, (by rw [upd_ne nra.symm]; exact hx4), c.cl, c.nR, l2 t ga, ?_⟩
          have hx5 : (upd (upd H4 ra (.tup (ps.map V.ref))) x (.ins CC dx (putF "rows" (.ref ra) (f2 t ga)))) x = some (.ins CC dx (f3 t ga ra)) := upd_same
          have hr5 : (upd (upd H4 ra (.tup (ps.map V.ref))) x (.ins CC dx (putF "rows" (.ref ra) (f2 t ga)))) ra = some (.tup (ps.map V.ref)) := by rw [upd_ne nra, upd_same]
          have C5 : ∀ b o, b ≠ x → H4 b = some o → (upd (upd H4 ra (.tup (ps.map V.ref))) x (.ins CC dx (putF "rows" (.ref ra) (f2 t ga)))) b = some o := fun b o nb eb => by
            rw [upd_ne nb, upd_ne (ne_of_none eb hra)]
            exact eb
          generalize upd (upd H4 ra (.tup (ps.map V.ref))) x (.ins CC dx (putF "rows" (.ref ra) (f2 t ga))) = H5 at hx5 hr5 C5
          have B5 : ∀ b o, b ≠ x → H b = some o → H5 b = some o := fun b o nb eb => C5 b o nb (S4 _ _ (B3 b o nb eb))
          have hg5 := C5 _ _ (ne_of hg3 hx3 (by intro z; cases z)) (S4 _ _ hg3)
          have rows5 : ∀ (j : Nat) (a : Addr) (s : Sh), ps[j]? = some a → ss[j]? = some s → H5 a = some (.tup (items s)) := fun j a s ea e2 => by
            have q := hps j a s ea e2
            exact C5 _ _ (ne_of q hx4 (by intro z; cases z)) q
          have hT5 := hT.but hx B5
          have R5 : RowsAt H5 ra ns.length ps tss := ⟨hr5, by omega, fun j a ts ea ets => by
            have hj : j < ps.length := (List.getElem?_eq_some_iff.mp ea).1
            have es := List.getElem?_eq_getElem (l := ss) (i := j) (by omega)
            obtain ⟨e1, e2, e3⟩ := htss j _ ts es ets
            exact ⟨by rw [← e1]; exact rows5 j a _ ea es, e2, e3⟩⟩
          -- self.table
          refine ⟨_, rfl, _, rfl, x, CC, dx, _, _, rfl, hx5, c.cl, c.nR, f3_rows t ga ra, t, ra, ns, ps, tss, rfl, hT5, R5, by omega, fun H6 z S6 _ e6 => ?_⟩
          have hx6 := S6 _ _ hx5
          refine ⟨_, rfl, x, CC, dx, _, rfl, hx6, c.cl, c.nB, l3 t ga ra, ?_⟩
          have hx7 : (upd H6 x (.ins CC dx (putF "table" (.ref z) (f3 t ga ra)))) x = some (.ins CC dx (f4 t ga ra z)) := upd_same
          have C67 : ∀ b o, b ≠ x → H6 b = some o → (upd H6 x (.ins CC dx (putF "table" (.ref z) (f3 t ga ra)))) b = some o := fun b o nb eb => by
            rw [upd_ne nb]
            exact eb
          have C7 : ∀ b o, b ≠ x → H5 b = some o → (upd H6 x (.ins CC dx (putF "table" (.ref z) (f3 t ga ra)))) b = some o := fun b o nb eb => by
            rw [upd_ne nb]
            exact S6 _ _ eb
          generalize upd H6 x (.ins CC dx (putF "table" (.ref z) (f3 t ga ra))) = H7 at hx7 C7 C67
          have hg7 := C7 _ _ (ne_of hg5 hx5 (by intro z; cases z)) hg5
          have hr7 := C7 _ _ (ne_of hr5 hx5 (by intro z; cases z)) hr5
          -- self._places
          refine ⟨_, rfl, x, CC, dx, _, _, rfl, hx7, c.cl, c.nG, f4_guests t ga ra z, ga, gs, rfl, SqT.of hg7, fun D2 hD2 => ?_⟩
          refine dc_enumT (K := K) (a := ga) (xs := gs) (fun i H8 => Same H7 H8 ∧ H7 D2 = none ∧ ∃ kvs : List (Key × V), kvs.length ≤ i ∧ H8 D2 = some (.dK kvs) ∧ ∀ k, valV kvs k = place (is.take i) k) ⟨new_same hD2, hD2, [], Nat.le_refl _, upd_same, fun k => by cases k <;> rfl⟩ (fun i H8 _ ⟨S8, _⟩ => SqT.of (S8 _ _ hg7)) ?_ ?_
          · rintro i y H8 T hy ⟨S8, D0', kvs, kl, eK, vK⟩ hT8
            have hi : i < gs.length := (List.getElem?_eq_some_iff.mp hy).1
            obtain ⟨n, hn, rfl⟩ : ∃ n, is[i]? = some n ∧ y = V.int n := by
              rw [kin', List.getElem?_map] at hy
              cases e : is[i]? with
              | none => rw [e] at hy; cases hy
              | some n => rw [e] at hy; exact ⟨n, rfl, (Option.some.inj hy).symm⟩
            refine ⟨T, _, rfl, SqT.of upd_same, rfl, _, _, rfl, _, _, rfl, rfl, rfl, yesT ?_⟩
            refine ⟨_, rfl, _, rfl, kvs, .inl n, rfl, by rw [upd_ne (ne_of_none eK hT8)]; exact eK, by show kvs.length < 16777216; omega, fun b o eb => ?_, D0', _, Nat.le_trans (length_putK _ _ _) (by omega), upd_same, fun k => ?_⟩
            · rw [upd_ne (ne_of_none eb D0'), upd_ne (ne_of_none (S8 _ _ eb) hT8)]
              exact S8 _ _ eb
            · rw [valV_put, place_next hn asc, vK]
          · rintro H8 ⟨S8, D0', kvs, kl, eK, vK⟩
            have hx8 := S8 _ _ hx7
            have ln : is.length = gs.length := by rw [kin', List.length_map]
            rw [show is.take gs.length = is from by rw [← ln, List.take_length]] at vK
            refine ⟨_, rfl, x, CC, dx, _, rfl, hx8, c.cl, c.nP, l4 t ga ra z, ?_⟩
            have C9 : ∀ b o, b ≠ x → H5 b = some o → (upd H8 x (.ins CC dx (putF "_places" (.ref D2) (f4 t ga ra z)))) b = some o := fun b o nb eb => by
              rw [upd_ne nb]
              exact S8 _ _ (C7 b o nb eb)
            have B9 : ∀ b o, b ≠ x → H b = some o → (upd H8 x (.ins CC dx (putF "_places" (.ref D2) (f4 t ga ra z)))) b = some o := fun b o nb eb => C9 b o nb (B5 b o nb eb)
            have D9 : ∀ b o, b ≠ x → H6 b = some o → (upd H8 x (.ins CC dx (putF "_places" (.ref D2) (f4 t ga ra z)))) b = some o := fun b o nb eb => by
              rw [upd_ne nb]
              exact S8 _ _ (C67 b o nb eb)
            refine k2 hd _ is tss B9 kin asc (by rw [tlen]; omega) (fun j s ts e1 e2 => (htss j s ts e1 e2).1) ⟨dx, t, ga, ra, z, D2, ps, kvs, upd_same, hT.but hx B9, (by rw [← show gs = is.map V.int from kin]; exact C9 _ _ (ne_of hg5 hx5 (by intro z; cases z)) hg5), ⟨C9 _ _ (ne_of hr5 hx5 (by intro z; cases z)) hr5, R5.2.1, fun j a ts ea ets => ?_⟩, ?_, (by rw [upd_ne (ne_of eK hx8 (by intro z; cases z))]; exact eK), vK, asc, by rw [tlen]; omega, by omega, labs⟩
            · obtain ⟨q1, q2⟩ := R5.2.2 j a ts ea ets
              exact ⟨C9 _ _ (ne_of q1 hx5 (by intro z; cases z)) q1, q2⟩
            · obtain ⟨us, u1, u2, u3⟩ := e6
              refine ⟨us, D9 _ _ (ne_of u1 hx6 (by intro z; cases z)) u1, u2, fun a u e => ?_⟩
              obtain ⟨xs, w1, w2⟩ := u3 a u e
              exact ⟨xs, D9 _ _ (ne_of w1 hx6 (by intro z; cases z)) w1, w2⟩
    | tup gs =>
      cases sr with
      | sc u =>
        refine ⟨_, (pss_cons 
  (ps_expr (pcal GK hr (passes_call (takes_of rfl rfl rfl rfl) (fun _ _ _ _ h => h)) (pa_cons (pv 1) (pa_cons (pv 2) (pa_cons (pv 3) pa_nil))))) (pss_cons 
  (ps_fld (pv 0) (pv 1) rfl) (pss_cons 
  (ps_fld (pv 0) (pe_callTy (T := "tuple") (r := rTup K) call_tuple_of (by rfl) nt (by decide +kernel) (pa_cons (pv 2) pa_nil)) rfl) (pss_cons 
  (ps_fld (pv 0) (pe_callTy (T := "tuple") (r := rTup K) call_tuple_of (by rfl) nt (by decide +kernel) (pa_cons (pe_lc (own := [("row", 4)]) (g := gName 4) (by rfl) sc_Company_init.nd (pi_list (pv 3)) (blkOk_by (own := [("row", 4)]) (N := ["self", "ties", "guests", "rows", "row", "place", "label"]) (sc := defScope s_Company_init) (by decide +kernel)) (fun _ _ _ _ _ => pg_name (i := 4) sc_Company_init.nd rfl (Or.inl rfl)) (fun _ _ _ _ _ => pts_nil) (fun _ _ _ _ _ => (pe_callTy (T := "tuple") (r := rTup K) call_tuple_of (by rfl) nt (by decide +kernel) (pa_cons (pv 4) pa_nil)))) pa_nil)) rfl) (pss_cons 
  (ps_fld (pv 0) (pcal GT hr pass0 (pa_cons (pv 1) (pa_cons (pe_fld (pv 0) rfl) pa_nil))) rfl) (pss_one 
  (ps_fld (pv 0) (pe_dc (own := [("place", 5), ("label", 6)]) (g := gTup K 2 (gCons (gName 5) (gCons (gName 6) gNil))) (by rfl) sc_Company_init.nd (pi_enumT (by rfl) ne (pa_cons (pe_fld (pv 0) rfl) pa_nil)) (blkOk_by (own := [("place", 5), ("label", 6)]) (N := ["self", "ties", "guests", "rows", "row", "place", "label"]) (sc := defScope s_Company_init) (by decide +kernel)) (fun _ _ _ _ _ => pg_tup (by rfl) (pgs_cons (pg_name (i := 5) sc_Company_init.nd rfl (Or.inl rfl)) (pgs_cons (pg_name (i := 6) sc_Company_init.nd rfl (Or.inl rfl)) pgs_nil))) (fun _ _ _ _ _ => pts_nil) (fun _ _ _ _ _ => pv 6) (fun _ _ _ _ _ => pv 5)) rfl))))))), ?_⟩
        exact ⟨_, rfl, _, rfl, _, rfl, t, ns, _, _, .tup gs, .sc u, ss, rfl, hT, hg, kg, hrr, hs, lg, k1, fun hd => nomatch (goodC_of hd).sq⟩
      | dk =>
        refine ⟨_, (pss_cons 
  (ps_expr (pcal GK hr (passes_call (takes_of rfl rfl rfl rfl) (fun _ _ _ _ h => h)) (pa_cons (pv 1) (pa_cons (pv 2) (pa_cons (pv 3) pa_nil))))) (pss_cons 
  (ps_fld (pv 0) (pv 1) rfl) (pss_cons 
  (ps_fld (pv 0) (pe_callTy (T := "tuple") (r := rTup K) call_tuple_of (by rfl) nt (by decide +kernel) (pa_cons (pv 2) pa_nil)) rfl) (pss_cons 
  (ps_fld (pv 0) (pe_callTy (T := "tuple") (r := rTup K) call_tuple_of (by rfl) nt (by decide +kernel) (pa_cons (pe_lc (own := [("row", 4)]) (g := gName 4) (by rfl) sc_Company_init.nd (pi_list (pv 3)) (blkOk_by (own := [("row", 4)]) (N := ["self", "ties", "guests", "rows", "row", "place", "label"]) (sc := defScope s_Company_init) (by decide +kernel)) (fun _ _ _ _ _ => pg_name (i := 4) sc_Company_init.nd rfl (Or.inl rfl)) (fun _ _ _ _ _ => pts_nil) (fun _ _ _ _ _ => (pe_callTy (T := "tuple") (r := rTup K) call_tuple_of (by rfl) nt (by decide +kernel) (pa_cons (pv 4) pa_nil)))) pa_nil)) rfl) (pss_cons 
  (ps_fld (pv 0) (pcal GT hr pass0 (pa_cons (pv 1) (pa_cons (pe_fld (pv 0) rfl) pa_nil))) rfl) (pss_one 
  (ps_fld (pv 0) (pe_dc (own := [("place", 5), ("label", 6)]) (g := gTup K 2 (gCons (gName 5) (gCons (gName 6) gNil))) (by rfl) sc_Company_init.nd (pi_enumT (by rfl) ne (pa_cons (pe_fld (pv 0) rfl) pa_nil)) (blkOk_by (own := [("place", 5), ("label", 6)]) (N := ["self", "ties", "guests", "rows", "row", "place", "label"]) (sc := defScope s_Company_init) (by decide +kernel)) (fun _ _ _ _ _ => pg_tup (by rfl) (pgs_cons (pg_name (i := 5) sc_Company_init.nd rfl (Or.inl rfl)) (pgs_cons (pg_name (i := 6) sc_Company_init.nd rfl (Or.inl rfl)) pgs_nil))) (fun _ _ _ _ _ => pts_nil) (fun _ _ _ _ _ => pv 6) (fun _ _ _ _ _ => pv 5)) rfl))))))), ?_⟩
        exact ⟨_, rfl, _, rfl, _, rfl, t, ns, _, _, .tup gs, .dk, ss, rfl, hT, hg, kg, hrr, hs, lg, k1, fun hd => nomatch (goodC_of hd).sq⟩
      | lst rs =>
        obtain ⟨pg, rfl, hp⟩ := hg
        obtain ⟨pr, rfl, hq⟩ := hrr
        refine ⟨_, (pss_cons 
    (ps_expr (pcal GK hr (passes_call (takes_of rfl rfl rfl rfl) (fun _ _ _ _ h => h)) (pa_cons (pv 1) (pa_cons (pv 2) (pa_cons (pv 3) pa_nil))))) (pss_cons 
    (ps_fld (pv 0) (pv 1) rfl) (pss_cons 
    (ps_fld (pv 0) (pe_callTy (T := "tuple") (r := rTup K) call_tuple_of (by rfl) nt (by decide +kernel) (pa_cons (pv 2) pa_nil)) rfl) (pss_cons 
    (ps_fld (pv 0) (pe_callTy (T := "tuple") (r := rTup K) call_tuple_of (by rfl) nt (by decide +kernel) (pa_cons (pe_lc (own := [("row", 4)]) (g := gName 4) (by rfl) sc_Company_init.nd (pi_list (pv 3)) (blkOk_by (own := [("row", 4)]) (N := ["self", "ties", "guests", "rows", "row", "place", "label"]) (sc := defScope s_Company_init) (by decide +kernel)) (fun _ _ _ _ _ => pg_name (i := 4) sc_Company_init.nd rfl (Or.inl rfl)) (fun _ _ _ _ _ => pts_nil) (fun _ _ _ _ _ => (pe_callTy (T := "tuple") (r := rTup K) call_tuple_of (by rfl) nt (by decide +kernel) (pa_cons (pv 4) pa_nil)))) pa_nil)) rfl) (pss_cons 
    (ps_fld (pv 0) (pcal GT hr pass0 (pa_cons (pv 1) (pa_cons (pe_fld (pv 0) rfl) pa_nil))) rfl) (pss_one 
    (ps_fld (pv 0) (pe_dc (own := [("place", 5), ("label", 6)]) (g := gTup K 2 (gCons (gName 5) (gCons (gName 6) gNil))) (by rfl) sc_Company_init.nd (pi_enumT (by rfl) ne (pa_cons (pe_fld (pv 0) rfl) pa_nil)) (blkOk_by (own := [("place", 5), ("label", 6)]) (N := ["self", "ties", "guests", "rows", "row", "place", "label"]) (sc := defScope s_Company_init) (by decide +kernel)) (fun _ _ _ _ _ => pg_tup (by rfl) (pgs_cons (pg_name (i := 5) sc_Company_init.nd rfl (Or.inl rfl)) (pgs_cons (pg_name (i := 6) sc_Company_init.nd rfl (Or.inl rfl)) pgs_nil))) (fun _ _ _ _ _ => pts_nil) (fun _ _ _ _ _ => pv 6) (fun _ _ _ _ _ => pv 5)) rfl))))))), ?_⟩
        refine ⟨_, rfl, _, rfl, _, rfl, t, ns, _, _, Sh.tup gs, Sh.lst rs, ss, rfl, hT, ⟨pg, rfl, hp⟩, kg, ⟨pr, rfl, hq⟩, hs, lg, k1, fun hd H1 S1 => ?_⟩
        have G := goodC_of hd
        have hx1 := S1 _ _ hx
        have hp1 := S1 _ _ hp
        have hq1 := S1 _ _ hq
        have hT1 := hT.keep S1
        obtain ⟨is, kin⟩ := G.ints
        have asc := G.asc kin
        have labs := G.labels kin
        have kin' : gs = is.map V.int := kin
        have gful : gs.length ≤ ss.length := G.full
        obtain ⟨tss, tlen, htss⟩ : ∃ tss : List (List Int), tss.length = ss.length ∧ ∀ (j : Nat) (s : Sh) (ts : List Int), ss[j]? = some s → tss[j]? = some ts → items s = ts.map V.int ∧ ts.length = j ∧ ∀ t ∈ ts, 0 ≤ t ∧ t < (ns.length : Nat) := G.tss (by show ss.length ≤ gs.length; have := hs.len; have := G.ln; have : rs.length ≤ gs.length := G.ln; have : rs.length = ss.length := hs.len; omega)
        have gle : gs.length ≤ 60 := G.le
        have rle : rs.length ≤ gs.length := G.ln
        have npg : pg ≠ x := ne_of hp hx (by intro z; cases z)
        have sl : rs.length = ss.length := hs.len
        -- self.ties
        refine ⟨_, rfl, _, rfl, x, CC, dx, [], rfl, hx1, c.cl, c.nT, (by decide), ?_⟩
        have hx2 : (upd H1 x (.ins CC dx (putF "ties" (.ref t) []))) x = some (.ins CC dx (f1 t)) := upd_same
        have B2 : ∀ b o, b ≠ x → H b = some o → (upd H1 x (.ins CC dx (putF "ties" (.ref t) []))) b = some o := fun b o nb eb => by rw [upd_ne nb]; exact S1 _ _ eb
        have hp2 := B2 _ _ npg hp
        -- self.guests
        obtain ⟨ga, ega⟩ : ∃ ga, ga = pg := ⟨pg, rfl⟩
        refine ⟨_, rfl, pg, gs, rfl, .inr ⟨SqT.of hp2, ?_⟩⟩
        refine ⟨_, rfl, x, CC, dx, _, rfl, hx2, c.cl, c.nG, l1 t, ?_⟩
        rw [← ega] at hp2 npg ⊢
        have hx3 : (upd (upd H1 x (.ins CC dx (putF "ties" (.ref t) []))) x (.ins CC dx (putF "guests" (.ref ga) (f1 t)))) x = some (.ins CC dx (f2 t ga)) := upd_same
        have hg3 : (upd (upd H1 x (.ins CC dx (putF "ties" (.ref t) []))) x (.ins CC dx (putF "guests" (.ref ga) (f1 t)))) ga = some (.tup gs) := by rw [upd_ne npg]; exact hp2
        have B3 : ∀ b o, b ≠ x → H b = some o → (upd (upd H1 x (.ins CC dx (putF "ties" (.ref t) []))) x (.ins CC dx (putF "guests" (.ref ga) (f1 t)))) b = some o := fun b o nb eb => by
          rw [upd_ne nb]
          exact B2 b o nb eb
        generalize upd (upd H1 x (.ins CC dx (putF "ties" (.ref t) []))) x (.ins CC dx (putF "guests" (.ref ga) (f1 t))) = H3 at hx3 hg3 B3
        -- self.rows
        have hq3 := B3 _ _ (ne_of hq hx (by intro z; cases z)) hq
        refine ⟨_, rfl, pr, rfl, ⟨_, SqL.of hq3⟩, fun D hD => ?_⟩
        refine lc_list (K := K) (a := pr) (xs := rs) (fun i H4 => Same H3 H4 ∧ H3 D = none ∧ ∃ ps : List Addr, ps.length = i ∧ H4 D = some (.lst (ps.map V.ref)) ∧ ∀ (j : Nat) (a : Addr) (s : Sh), ps[j]? = some a → ss[j]? = some s → H4 a = some (.tup (items s)))
          ⟨new_same hD, hD, [], rfl, upd_same, fun j a s e => nomatch e⟩ (fun i H4 _ ⟨S4, _⟩ => SqL.of (S4 _ _ hq3)) ?_ ?_
        · rintro i y H4 hy ⟨S4, D0, ps, pl, eD, hps⟩
          have hi : i < rs.length := (List.getElem?_eq_some_iff.mp hy).1
          obtain ⟨s, es, isy, _⟩ := hs.at_ hy
          obtain ⟨s', es', ew⟩ := G.row (j := i) (by show i < gs.length; omega)
          obtain rfl : s = s' := by rw [es] at es'; exact Option.some.inj es'
          obtain ⟨sq, _⟩ := rowW_good ew
          refine ⟨rfl, yesT ?_⟩
          have put : ∀ (H5 : Hp) (z : Addr), Same H4 H5 → H5 z = some (.tup (items s)) → ∃ acc : List V, H5 D = some (.lst acc) ∧ acc.length < sizeLine ∧ Same H3 (upd H5 D (.lst (acc ++ [.ref z]))) ∧ H3 D = none ∧ ∃ ps : List Addr, ps.length = i + 1 ∧ (upd H5 D (.lst (acc ++ [.ref z]))) D = some (.lst (ps.map V.ref)) ∧ ∀ (j : Nat) (a : Addr) (s : Sh), ps[j]? = some a → ss[j]? = some s → (upd H5 D (.lst (acc ++ [.ref z]))) a = some (.tup (items s)) := fun H5 z S5 ez => by
            refine ⟨_, S5 _ _ eD, by rw [List.length_map, pl]; show i < 16777216; omega, fun b o eb => ?_, D0, ps ++ [z], by rw [List.length_append, pl]; rfl, by rw [upd_same, List.map_append]; rfl, fun j a s2 ea e2 => ?_⟩
            · rw [upd_ne (ne_of_none eb D0)]
              exact S5 _ _ (S4 _ _ eb)
            · rcases Nat.lt_or_ge j ps.length with hj | hj
              · rw [List.getElem?_append_left hj] at ea
                have q := S5 _ _ (hps j a s2 ea e2)
                rw [upd_ne (ne_of q (S5 _ _ eD) (by intro z; cases z))]
                exact q
              · have hj2 : j = i := by
                  have := (List.getElem?_eq_some_iff.mp ea).1
                  rw [List.length_append] at this
                  have l : [z].length = 1 := rfl
                  omega
                subst hj2
                rw [← pl, List.getElem?_append_right (Nat.le_refl _), Nat.sub_self] at ea
                obtain rfl : z = a := Option.some.inj ea
                obtain rfl : s = s2 := by rw [es] at e2; exact Option.some.inj e2
                rw [upd_ne (ne_of ez (S5 _ _ eD) (by intro z; cases z))]
                exact ez
          cases s with
          | sc u => cases sq
          | dk => cases sq
          | lst ys =>
            obtain ⟨a, rfl, ea⟩ := isy
            refine ⟨_, rfl, a, ys, rfl, .inl ⟨SqL.of (S4 _ _ (B3 _ _ (ne_of ea hx (by intro z; cases z)) ea)), fun z hz => ?_⟩⟩
            exact put _ z (new_same hz) upd_same
          | tup ys =>
            obtain ⟨a, rfl, ea⟩ := isy
            have ea4 := S4 _ _ (B3 _ _ (ne_of ea hx (by intro z; cases z)) ea)
            exact ⟨_, rfl, a, ys, rfl, .inr ⟨SqT.of ea4, put _ a (Same.refl _) ea4⟩⟩
        · rintro H4 ⟨S4, D0, ps, pl, eD, hps⟩
          refine ⟨D, _, rfl, .inl ⟨SqL.of eD, fun ra hra => ?_⟩⟩
          have hx4 := S4 _ _ hx3
          have nra : ra ≠ x := (ne_of_none hx4 hra).symm
          refine ⟨_, rfl, x, CC, dx, _, rfl, (by rw [upd_ne nra.symm]; exact hx4), c.cl, c.nR, l2 t ga, ?_⟩
          have hx5 : (upd (upd H4 ra (.tup (ps.map V.ref))) x (.ins CC dx (putF "rows" (.ref ra) (f2 t ga)))) x = some (.ins CC dx (f3 t ga ra)) := upd_same
          have hr5 : (upd (upd H4 ra (.tup (ps.map V.ref))) x (.ins CC dx (putF "rows" (.ref ra) (f2 t ga)))) ra = some (.tup (ps.map V.ref)) := by rw [upd_ne nra, upd_same]
          have C5 : ∀ b o, b ≠ x → H4 b = some o → (upd (upd H4 ra (.tup (ps.map V.ref))) x (.ins CC dx (putF "rows" (.ref ra) (f2 t ga)))) b = some o := fun b o nb eb => by
            rw [upd_ne nb, upd_ne (ne_of_none eb hra)]
            exact eb
          generalize upd (upd H4 ra (.tup (ps.map V.ref))) x (.ins CC dx (putF "rows" (.ref ra) (f2 t ga))) = H5 at hx5 hr5 C5
          have B5 : ∀ b o, b ≠ x → H b = some o → H5 b = some o := fun b o nb eb => C5 b o nb (S4 _ _ (B3 b o nb eb))
          have hg5 := C5 _ _ (ne_of hg3 hx3 (by intro z; cases z)) (S4 _ _ hg3)
          have rows5 : ∀ (j : Nat) (a : Addr) (s : Sh), ps[j]? = some a → ss[j]? = some s → H5 a = some (.tup (items s)) := fun j a s ea e2 => by
            have q := hps j a s ea e2
            exact C5 _ _ (ne_of q hx4 (by intro z; cases z)) q
          have hT5 := hT.but hx B5
          have R5 : RowsAt H5 ra ns.length ps tss := ⟨hr5, by omega, fun j a ts ea ets => by
            have hj : j < ps.length := (List.getElem?_eq_some_iff.mp ea).1
            have es := List.getElem?_eq_getElem (l := ss) (i := j) (by omega)
            obtain ⟨e1, e2, e3⟩ := htss j _ ts es ets
            exact ⟨by rw [← e1]; exact rows5 j a _ ea es, e2, e3⟩⟩
          -- self.table
          refine ⟨_, rfl, _, rfl, x, CC, dx, _, _, rfl, hx5, c.cl, c.nR, f3_rows t ga ra, t, ra, ns, ps, tss, rfl, hT5, R5, by omega, fun H6 z S6 _ e6 => ?_⟩
          have hx6 := S6 _ _ hx5
          refine ⟨_, rfl, x, CC, dx, _, rfl, hx6, c.cl, c.nB, l3 t ga ra, ?_⟩
          have hx7 : (upd H6 x (.ins CC dx (putF "table" (.ref z) (f3 t ga ra)))) x = some (.ins CC dx (f4 t ga ra z)) := upd_same
          have C67 : ∀ b o, b ≠ x → H6 b = some o → (upd H6 x (.ins CC dx (putF "table" (.ref z) (f3 t ga ra)))) b = some o := fun b o nb eb => by
            rw [upd_ne nb]
            exact eb
          have C7 : ∀ b o, b ≠ x → H5 b = some o → (upd H6 x (.ins CC dx (putF "table" (.ref z) (f3 t ga ra)))) b = some o := fun b o nb eb => by
            rw [upd_ne nb]
            exact S6 _ _ eb
          generalize upd H6 x (.ins CC dx (putF "table" (.ref z) (f3 t ga ra))) = H7 at hx7 C7 C67
          have hg7 := C7 _ _ (ne_of hg5 hx5 (by intro z; cases z)) hg5
          have hr7 := C7 _ _ (ne_of hr5 hx5 (by intro z; cases z)) hr5
          -- self._places
          refine ⟨_, rfl, x, CC, dx, _, _, rfl, hx7, c.cl, c.nG, f4_guests t ga ra z, ga, gs, rfl, SqT.of hg7, fun D2 hD2 => ?_⟩
          refine dc_enumT (K := K) (a := ga) (xs := gs) (fun i H8 => Same H7 H8 ∧ H7 D2 = none ∧ ∃ kvs : List (Key × V), kvs.length ≤ i ∧ H8 D2 = some (.dK kvs) ∧ ∀ k, valV kvs k = place (is.take i) k) ⟨new_same hD2, hD2, [], Nat.le_refl _, upd_same, fun k => by cases k <;> rfl⟩ (fun i H8 _ ⟨S8, _⟩ => SqT.of (S8 _ _ hg7)) ?_ ?_
          · rintro i y H8 T hy ⟨S8, D0', kvs, kl, eK, vK⟩ hT8
            have hi : i < gs.length := (List.getElem?_eq_some_iff.mp hy).1
            obtain ⟨n, hn, rfl⟩ : ∃ n, is[i]? = some n ∧ y = V.int n := by
              rw [kin', List.getElem?_map] at hy
              cases e : is[i]? with
              | none => rw [e] at hy; cases hy
              | some n => rw [e] at hy; exact ⟨n, rfl, (Option.some.inj hy).symm⟩
            refine ⟨T, _, rfl, SqT.of upd_same, rfl, _, _, rfl, _, _, rfl, rfl, rfl, yesT ?_⟩
            refine ⟨_, rfl, _, rfl, kvs, .inl n, rfl, by rw [upd_ne (ne_of_none eK hT8)]; exact eK, by show kvs.length < 16777216; omega, fun b o eb => ?_, D0', _, Nat.le_trans (length_putK _ _ _) (by omega), upd_same, fun k => ?_⟩
            · rw [upd_ne (ne_of_none eb D0'), upd_ne (ne_of_none (S8 _ _ eb) hT8)]
              exact S8 _ _ eb
            · rw [valV_put, place_next hn asc, vK]
          · rintro H8 ⟨S8, D0', kvs, kl, eK, vK⟩
            have hx8 := S8 _ _ hx7
            have ln : is.length = gs.length := by rw [kin', List.length_map]
            rw [show is.take gs.length = is from by rw [← ln, List.take_length]] at vK
            refine ⟨_, rfl, x, CC, dx, _, rfl, hx8, c.cl, c.nP, l4 t ga ra z, ?_⟩
            have C9 : ∀ b o, b ≠ x → H5 b = some o → (upd H8 x (.ins CC dx (putF "_places" (.ref D2) (f4 t ga ra z)))) b = some o := fun b o nb eb => by
              rw [upd_ne nb]
              exact S8 _ _ (C7 b o nb eb)
            have B9 : ∀ b o, b ≠ x → H b = some o → (upd H8 x (.ins CC dx (putF "_places" (.ref D2) (f4 t ga ra z)))) b = some o := fun b o nb eb => C9 b o nb (B5 b o nb eb)
            have D9 : ∀ b o, b ≠ x → H6 b = some o → (upd H8 x (.ins CC dx (putF "_places" (.ref D2) (f4 t ga ra z)))) b = some o := fun b o nb eb => by
              rw [upd_ne nb]
              exact S8 _ _ (C67 b o nb eb)
            refine k2 hd _ is tss B9 kin asc (by rw [tlen]; omega) (fun j s ts e1 e2 => (htss j s ts e1 e2).1) ⟨dx, t, ga, ra, z, D2, ps, kvs, upd_same, hT.but hx B9, (by rw [← show gs = is.map V.int from kin]; exact C9 _ _ (ne_of hg5 hx5 (by intro z; cases z)) hg5), ⟨C9 _ _ (ne_of hr5 hx5 (by intro z; cases z)) hr5, R5.2.1, fun j a ts ea ets => ?_⟩, ?_, (by rw [upd_ne (ne_of eK hx8 (by intro z; cases z))]; exact eK), vK, asc, by rw [tlen]; omega, by omega, labs⟩
            · obtain ⟨q1, q2⟩ := R5.2.2 j a ts ea ets
              exact ⟨C9 _ _ (ne_of q1 hx5 (by intro z; cases z)) q1, q2⟩
            · obtain ⟨us, u1, u2, u3⟩ := e6
              refine ⟨us, D9 _ _ (ne_of u1 hx6 (by intro z; cases z)) u1, u2, fun a u e => ?_⟩
              obtain ⟨xs, w1, w2⟩ := u3 a u e
              exact ⟨xs, D9 _ _ (ne_of w1 hx6 (by intro z; cases z)) w1, w2⟩
      | tup rs =>
        obtain ⟨pg, rfl, hp⟩ := hg
        obtain ⟨pr, rfl, hq⟩ := hrr
        refine ⟨_, (pss_cons 
    (ps_expr (pcal GK hr (passes_call (takes_of rfl rfl rfl rfl) (fun _ _ _ _ h => h)) (pa_cons (pv 1) (pa_cons (pv 2) (pa_cons (pv 3) pa_nil))))) (pss_cons 
    (ps_fld (pv 0) (pv 1) rfl) (pss_cons 
    (ps_fld (pv 0) (pe_callTy (T := "tuple") (r := rTup K) call_tuple_of (by rfl) nt (by decide +kernel) (pa_cons (pv 2) pa_nil)) rfl) (pss_cons 
    (ps_fld (pv 0) (pe_callTy (T := "tuple") (r := rTup K) call_tuple_of (by rfl) nt (by decide +kernel) (pa_cons (pe_lc (own := [("row", 4)]) (g := gName 4) (by rfl) sc_Company_init.nd (pi_tup (pv 3)) (blkOk_by (own := [("row", 4)]) (N := ["self", "ties", "guests", "rows", "row", "place", "label"]) (sc := defScope s_Company_init) (by decide +kernel)) (fun _ _ _ _ _ => pg_name (i := 4) sc_Company_init.nd rfl (Or.inl rfl)) (fun _ _ _ _ _ => pts_nil) (fun _ _ _ _ _ => (pe_callTy (T := "tuple") (r := rTup K) call_tuple_of (by rfl) nt (by decide +kernel) (pa_cons (pv 4) pa_nil)))) pa_nil)) rfl) (pss_cons 
    (ps_fld (pv 0) (pcal GT hr pass0 (pa_cons (pv 1) (pa_cons (pe_fld (pv 0) rfl) pa_nil))) rfl) (pss_one 
    (ps_fld (pv 0) (pe_dc (own := [("place", 5), ("label", 6)]) (g := gTup K 2 (gCons (gName 5) (gCons (gName 6) gNil))) (by rfl) sc_Company_init.nd (pi_enumT (by rfl) ne (pa_cons (pe_fld (pv 0) rfl) pa_nil)) (blkOk_by (own := [("place", 5), ("label", 6)]) (N := ["self", "ties", "guests", "rows", "row", "place", "label"]) (sc := defScope s_Company_init) (by decide +kernel)) (fun _ _ _ _ _ => pg_tup (by rfl) (pgs_cons (pg_name (i := 5) sc_Company_init.nd rfl (Or.inl rfl)) (pgs_cons (pg_name (i := 6) sc_Company_init.nd rfl (Or.inl rfl)) pgs_nil))) (fun _ _ _ _ _ => pts_nil) (fun _ _ _ _ _ => pv 6) (fun _ _ _ _ _ => pv 5)) rfl))))))), ?_⟩
        refine ⟨_, rfl, _, rfl, _, rfl, t, ns, _, _, Sh.tup gs, Sh.tup rs, ss, rfl, hT, ⟨pg, rfl, hp⟩, kg, ⟨pr, rfl, hq⟩, hs, lg, k1, fun hd H1 S1 => ?_⟩
        have G := goodC_of hd
        have hx1 := S1 _ _ hx
        have hp1 := S1 _ _ hp
        have hq1 := S1 _ _ hq
        have hT1 := hT.keep S1
        obtain ⟨is, kin⟩ := G.ints
        have asc := G.asc kin
        have labs := G.labels kin
        have kin' : gs = is.map V.int := kin
        have gful : gs.length ≤ ss.length := G.full
        obtain ⟨tss, tlen, htss⟩ : ∃ tss : List (List Int), tss.length = ss.length ∧ ∀ (j : Nat) (s : Sh) (ts : List Int), ss[j]? = some s → tss[j]? = some ts → items s = ts.map V.int ∧ ts.length = j ∧ ∀ t ∈ ts, 0 ≤ t ∧ t < (ns.length : Nat) := G.tss (by show ss.length ≤ gs.length; have := hs.len; have := G.ln; have : rs.length ≤ gs.length := G.ln; have : rs.length = ss.length := hs.len; omega)
        have gle : gs.length ≤ 60 := G.le
        have rle : rs.length ≤ gs.length := G.ln
        have npg : pg ≠ x := ne_of hp hx (by intro z; cases z)
        have sl : rs.length = ss.length := hs.len
        -- self.ties
        refine ⟨_, rfl, _, rfl, x, CC, dx, [], rfl, hx1, c.cl, c.nT, (by decide), ?_⟩
        have hx2 : (upd H1 x (.ins CC dx (putF "ties" (.ref t) []))) x = some (.ins CC dx (f1 t)) := upd_same
        have B2 : ∀ b o, b ≠ x → H b = some o → (upd H1 x (.ins CC dx (putF "ties" (.ref t) []))) b = some o := fun b o nb eb => by rw [upd_ne nb]; exact S1 _ _ eb
        have hp2 := B2 _ _ npg hp
        -- self.guests
        obtain ⟨ga, ega⟩ : ∃ ga, ga = pg := ⟨pg, rfl⟩
        refine ⟨_, rfl, pg, gs, rfl, .inr ⟨SqT.of hp2, ?_⟩⟩
        refine ⟨_, rfl, x, CC, dx, _, rfl, hx2, c.cl, c.nG, l1 t, ?_⟩
        rw [← ega] at hp2 npg ⊢
        have hx3 : (upd (upd H1 x (.ins CC dx (putF "ties" (.ref t) []))) x (.ins CC dx (putF "guests" (.ref ga) (f1 t)))) x = some (.ins CC dx (f2 t ga)) := upd_same
        have hg3 : (upd (upd H1 x (.ins CC dx (putF "ties" (.ref t) []))) x (.ins CC dx (putF "guests" (.ref ga) (f1 t)))) ga = some (.tup gs) := by rw [upd_ne npg]; exact hp2
        have B3 : ∀ b o, b ≠ x → H b = some o → (upd (upd H1 x (.ins CC dx (putF "ties" (.ref t) []))) x (.ins CC dx (putF "guests" (.ref ga) (f1 t)))) b = some o := fun b o nb eb => by
          rw [upd_ne nb]
          exact B2 b o nb eb
        generalize upd (upd H1 x (.ins CC dx (putF "ties" (.ref t) []))) x (.ins CC dx (putF "guests" (.ref ga) (f1 t))) = H3 at hx3 hg3 B3
        -- self.rows
        have hq3 := B3 _ _ (ne_of hq hx (by intro z; cases z)) hq
        refine ⟨_, rfl, pr, rfl, ⟨_, SqT.of hq3⟩, fun D hD => ?_⟩
        refine lc_tup (K := K) (a := pr) (xs := rs) (fun i H4 => Same H3 H4 ∧ H3 D = none ∧ ∃ ps : List Addr, ps.length = i ∧ H4 D = some (.lst (ps.map V.ref)) ∧ ∀ (j : Nat) (a : Addr) (s : Sh), ps[j]? = some a → ss[j]? = some s → H4 a = some (.tup (items s)))
          ⟨new_same hD, hD, [], rfl, upd_same, fun j a s e => nomatch e⟩ (fun i H4 _ ⟨S4, _⟩ => SqT.of (S4 _ _ hq3)) ?_ ?_
        · rintro i y H4 hy ⟨S4, D0, ps, pl, eD, hps⟩
          have hi : i < rs.length := (List.getElem?_eq_some_iff.mp hy).1
          obtain ⟨s, es, isy, _⟩ := hs.at_ hy
          obtain ⟨s', es', ew⟩ := G.row (j := i) (by show i < gs.length; omega)
          obtain rfl : s = s' := by rw [es] at es'; exact Option.some.inj es'
          obtain ⟨sq, _⟩ := rowW_good ew
          refine ⟨rfl, yesT ?_⟩
          have put : ∀ (H5 : Hp) (z : Addr), Same H4 H5 → H5 z = some (.tup (items s)) → ∃ acc : List V, H5 D = some (.lst acc) ∧ acc.length < sizeLine ∧ Same H3 (upd H5 D (.lst (acc ++ [.ref z]))) ∧ H3 D = none ∧ ∃ ps : List Addr, ps.length = i + 1 ∧ (upd H5 D (.lst (acc ++ [.ref z]))) D = some (.lst (ps.map V.ref)) ∧ ∀ (j : Nat) (a : Addr) (s : Sh), ps[j]? = some a → ss[j]? = some s → (upd H5 D (.lst (acc ++ [.ref z]))) a = some (.tup (items s)) := fun H5 z S5 ez => by
            refine ⟨_, S5 _ _ eD, by rw [List.length_map, pl]; show i < 16777216; omega, fun b o eb => ?_, D0, ps ++ [z], by rw [List.length_append, pl]; rfl, by rw [upd_same, List.map_append]; rfl, fun j a s2 ea e2 => ?_⟩
            · rw [upd_ne (ne_of_none eb D0)]
              exact S5 _ _ (S4 _ _ eb)
            · rcases Nat.lt_or_ge j ps.length with hj | hj
              · rw [List.getElem?_append_left hj] at ea
                have q := S5 _ _ (hps j a s2 ea e2)
                rw [upd_ne (ne_of q (S5 _ _ eD) (by intro z; cases z))]
                exact q
              · have hj2 : j = i := by
                  have := (List.getElem?_eq_some_iff.mp ea).1
                  rw [List.length_append] at this
                  have l : [z].length = 1 := rfl
                  omega
                subst hj2
                rw [← pl, List.getElem?_append_right (Nat.le_refl _), Nat.sub_self] at ea
                obtain rfl : z = a := Option.some.inj ea
                obtain rfl : s = s2 := by rw [es] at e2; exact Option.some.inj e2
                rw [upd_ne (ne_of ez (S5 _ _ eD) (by intro z; cases z))]
                exact ez
          cases s with
          | sc u => cases sq
          | dk => cases sq
          | lst ys =>
            obtain ⟨a, rfl, ea⟩ := isy
            refine ⟨_, rfl, a, ys, rfl, .inl ⟨SqL.of (S4 _ _ (B3 _ _ (ne_of ea hx (by intro z; cases z)) ea)), fun z hz => ?_⟩⟩
            exact put _ z (new_same hz) upd_same
          | tup ys =>
            obtain ⟨a, rfl, ea⟩ := isy
            have ea4 := S4 _ _ (B3 _ _ (ne_of ea hx (by intro z; cases z)) ea)
            exact ⟨_, rfl, a, ys, rfl, .inr ⟨SqT.of ea4, put _ a (Same.refl _) ea4⟩⟩
        · rintro H4 ⟨S4, D0, ps, pl, eD, hps⟩
          refine ⟨D, _, rfl, .inl ⟨SqL.of eD, fun ra hra => ?_⟩⟩
          have hx4 := S4 _ _ hx3
          have nra : ra ≠ x := (ne_of_none hx4 hra).symm
          refine ⟨_, rfl, x, CC, dx, _, rfl, (by rw [upd_ne nra.symm]; exact hx4), c.cl, c.nR, l2 t ga, ?_⟩
          have hx5 : (upd (upd H4 ra (.tup (ps.map V.ref))) x (.ins CC dx (putF "rows" (.ref ra) (f2 t ga)))) x = some (.ins CC dx (f3 t ga ra)) := upd_same
          have hr5 : (upd (upd H4 ra (.tup (ps.map V.ref))) x (.ins CC dx (putF "rows" (.ref ra) (f2 t ga)))) ra = some (.tup (ps.map V.ref)) := by rw [upd_ne nra, upd_same]
          have C5 : ∀ b o, b ≠ x → H4 b = some o → (upd (upd H4 ra (.tup (ps.map V.ref))) x (.ins CC dx (putF "rows" (.ref ra) (f2 t ga)))) b = some o := fun b o nb eb => by
            rw [upd_ne nb, upd_ne (ne_of_none eb hra)]
            exact eb
          generalize upd (upd H4 ra (.tup (ps.map V.ref))) x (.ins CC dx (putF "rows" (.ref ra) (f2 t ga))) = H5 at hx5 hr5 C5
          have B5 : ∀ b o, b ≠ x → H b = some o → H5 b = some o := fun b o nb eb => C5 b o nb (S4 _ _ (B3 b o nb eb))
          have hg5 := C5 _ _ (ne_of hg3 hx3 (by intro z; cases z)) (S4 _ _ hg3)
          have rows5 : ∀ (j : Nat) (a : Addr) (s : Sh), ps[j]? = some a → ss[j]? = some s → H5 a = some (.tup (items s)) := fun j a s ea e2 => by
            have q := hps j a s ea e2
            exact C5 _ _ (ne_of q hx4 (by intro z; cases z)) q
          have hT5 := hT.but hx B5
          have R5 : RowsAt H5 ra ns.length ps tss := ⟨hr5, by omega, fun j a ts ea ets => by
            have hj : j < ps.length := (List.getElem?_eq_some_iff.mp ea).1
            have es := List.getElem?_eq_getElem (l := ss) (i := j) (by omega)
            obtain ⟨e1, e2, e3⟩ := htss j _ ts es ets
            exact ⟨by rw [← e1]; exact rows5 j a _ ea es, e2, e3⟩⟩
          -- self.table
          refine ⟨_, rfl, _, rfl, x, CC, dx, _, _, rfl, hx5, c.cl, c.nR, f3_rows t ga ra, t, ra, ns, ps, tss, rfl, hT5, R5, by omega, fun H6 z S6 _ e6 => ?_⟩
          have hx6 := S6 _ _ hx5
          refine ⟨_, rfl, x, CC, dx, _, rfl, hx6, c.cl, c.nB, l3 t ga ra, ?_⟩
          have hx7 : (upd H6 x (.ins CC dx (putF "table" (.ref z) (f3 t ga ra)))) x = some (.ins CC dx (f4 t ga ra z)) := upd_same
          have C67 : ∀ b o, b ≠ x → H6 b = some o → (upd H6 x (.ins CC dx (putF "table" (.ref z) (f3 t ga ra)))) b = some o := fun b o nb eb => by
            rw [upd_ne nb]
            exact eb
          have C7 : ∀ b o, b ≠ x → H5 b = some o → (upd H6 x (.ins CC dx (putF "table" (.ref z) (f3 t ga ra)))) b = some o := fun b o nb eb => by
            rw [upd_ne nb]
            exact S6 _ _ eb
          generalize upd H6 x (.ins CC dx (putF "table" (.ref z) (f3 t ga ra))) = H7 at hx7 C7 C67
          have hg7 := C7 _ _ (ne_of hg5 hx5 (by intro z; cases z)) hg5
          have hr7 := C7 _ _ (ne_of hr5 hx5 (by intro z; cases z)) hr5
          -- self._places
          refine ⟨_, rfl, x, CC, dx, _, _, rfl, hx7, c.cl, c.nG, f4_guests t ga ra z, ga, gs, rfl, SqT.of hg7, fun D2 hD2 => ?_⟩
          refine dc_enumT (K := K) (a := ga) (xs := gs) (fun i H8 => Same H7 H8 ∧ H7 D2 = none ∧ ∃ kvs : List (Key × V), kvs.length ≤ i ∧ H8 D2 = some (.dK kvs) ∧ ∀ k, valV kvs k = place (is.take i) k) ⟨new_same hD2, hD2, [], Nat.le_refl _, upd_same, fun k => by cases k <;> rfl⟩ (fun i H8 _ ⟨S8, _⟩ => SqT.of (S8 _ _ hg7)) ?_ ?_
          · rintro i y H8 T hy ⟨S8, D0', kvs, kl, eK, vK⟩ hT8
            have hi : i < gs.length := (List.getElem?_eq_some_iff.mp hy).1
            obtain ⟨n, hn, rfl⟩ : ∃ n, is[i]? = some n ∧ y = V.int n := by
              rw [kin', List.getElem?_map] at hy
              cases e : is[i]? with
              | none => rw [e] at hy; cases hy
              | some n => rw [e] at hy; exact ⟨n, rfl, (Option.some.inj hy).symm⟩
            refine ⟨T, _, rfl, SqT.of upd_same, rfl, _, _, rfl, _, _, rfl, rfl, rfl, yesT ?_⟩
            refine ⟨_, rfl, _, rfl, kvs, .inl n, rfl, by rw [upd_ne (ne_of_none eK hT8)]; exact eK, by show kvs.length < 16777216; omega, fun b o eb => ?_, D0', _, Nat.le_trans (length_putK _ _ _) (by omega), upd_same, fun k => ?_⟩
            · rw [upd_ne (ne_of_none eb D0'), upd_ne (ne_of_none (S8 _ _ eb) hT8)]
              exact S8 _ _ eb
            · rw [valV_put, place_next hn asc, vK]
          · rintro H8 ⟨S8, D0', kvs, kl, eK, vK⟩
            have hx8 := S8 _ _ hx7
            have ln : is.length = gs.length := by rw [kin', List.length_map]
            rw [show is.take gs.length = is from by rw [← ln, List.take_length]] at vK
            refine ⟨_, rfl, x, CC, dx, _, rfl, hx8, c.cl, c.nP, l4 t ga ra z, ?_⟩
            have C9 : ∀ b o, b ≠ x → H5 b = some o → (upd H8 x (.ins CC dx (putF "_places" (.ref D2) (f4 t ga ra z)))) b = some o := fun b o nb eb => by
              rw [upd_ne nb]
              exact S8 _ _ (C7 b o nb eb)
            have B9 : ∀ b o, b ≠ x → H b = some o → (upd H8 x (.ins CC dx (putF "_places" (.ref D2) (f4 t ga ra z)))) b = some o := fun b o nb eb => C9 b o nb (B5 b o nb eb)
            have D9 : ∀ b o, b ≠ x → H6 b = some o → (upd H8 x (.ins CC dx (putF "_places" (.ref D2) (f4 t ga ra z)))) b = some o := fun b o nb eb => by
              rw [upd_ne nb]
              exact S8 _ _ (C67 b o nb eb)
            refine k2 hd _ is tss B9 kin asc (by rw [tlen]; omega) (fun j s ts e1 e2 => (htss j s ts e1 e2).1) ⟨dx, t, ga, ra, z, D2, ps, kvs, upd_same, hT.but hx B9, (by rw [← show gs = is.map V.int from kin]; exact C9 _ _ (ne_of hg5 hx5 (by intro z; cases z)) hg5), ⟨C9 _ _ (ne_of hr5 hx5 (by intro z; cases z)) hr5, R5.2.1, fun j a ts ea ets => ?_⟩, ?_, (by rw [upd_ne (ne_of eK hx8 (by intro z; cases z))]; exact eK), vK, asc, by rw [tlen]; omega, by omega, labs⟩
            · obtain ⟨q1, q2⟩ := R5.2.2 j a ts ea ets
              exact ⟨C9 _ _ (ne_of q1 hx5 (by intro z; cases z)) q1, q2⟩
            · obtain ⟨us, u1, u2, u3⟩ := e6
              refine ⟨us, D9 _ _ (ne_of u1 hx6 (by intro z; cases z)) u1, u2, fun a u e => ?_⟩
              obtain ⟨xs, w1, w2⟩ := u3 a u e
              exact ⟨xs, D9 _ _ (ne_of w1 hx6 (by intro z; cases z)) w1, w2⟩
end
end J

set_option Elab.async false
set_option linter.all false
set_option maxRecDepth 100000
set_option maxHeartbeats 2000000
namespace J
open PySem PySem.Spec PyProof.Rows L2
/-! ### in, not in and len by the text's own methods -/
def rInOwn (C : Addr) (sp : Sp) (E : XK) (neg : Bool) : R2 := fun x y H Q => ∃ b dx fs, y = .ref b ∧ H b = some (.ins C dx fs) ∧ sp [y, x] H (fun v H' => ∃ c, v = .bl c ∧ Q (.bl (if neg = true then !c else c)) H') E
section
variable {X : Cx} {CX : CXT} {n : Nat} {C f : Addr} {fd : FuncData} {ps : List Str} {sp : Sp} {E : XK}
theorem op_inOwn (F : FnOk X.prog X.w X.K X.mg X.base CX n f fd ps sp) (hs : PySem.W.findIn X.K (.ref C) "__contains__" = some (some (.ref f))) (hf : PySem.W.isFn X.K (.ref f) = true) (hb : Binds X.K fd ps []) (hx : Passes CX X E) (hr : Room n X.A) : OpR X (compareOp .In) (rInOwn C sp E false) := by
  intro pins s σ H x y v u Q I rx ry ⟨b, dx, fs, ey, hb', q⟩
  subst ey
  obtain rfl : u = Value.ref b := ry
  obtain ⟨mA, J, _⟩ := ins_get I.hok hb'
  obtain ⟨od, J, _⟩ := J.look
  obtain ⟨m, hF⟩ := I.fr
  have r2 : Vals [V.ref b, x] [Value.ref b, v] := .cons rfl (.cons rx .nil)
  refine PySem.W.in_K hF I.ok.mod.kin J hs hf ?_
  refine wpAny_mono (run_fn (dvs := []) (ds := []) (us := [.ref b, v]) (vs := [.ref b, x]) F hr hb .nil hx I r2 q) ?_ fun _ _ z => z
  rintro w s' ⟨z, H', I', rz, ⟨c, rfl, qz⟩⟩
  obtain rfl : w = Value.bool c := rz
  exact wpAny_truthy_bool ⟨V.bl c, H', I', rfl, qz⟩
theorem op_niOwn (F : FnOk X.prog X.w X.K X.mg X.base CX n f fd ps sp) (hs : PySem.W.findIn X.K (.ref C) "__contains__" = some (some (.ref f))) (hf : PySem.W.isFn X.K (.ref f) = true) (hb : Binds X.K fd ps []) (hx : Passes CX X E) (hr : Room n X.A) : OpR X (compareOp .NotIn) (rInOwn C sp E true) := by
  intro pins s σ H x y v u Q I rx ry ⟨b, dx, fs, ey, hb', q⟩
  subst ey
  obtain rfl : u = Value.ref b := ry
  obtain ⟨mA, J, _⟩ := ins_get I.hok hb'
  obtain ⟨od, J, _⟩ := J.look
  obtain ⟨m, hF⟩ := I.fr
  have r2 : Vals [V.ref b, x] [Value.ref b, v] := .cons rfl (.cons rx .nil)
  refine PySem.W.notIn_K hF I.ok.mod.kin J hs hf ?_
  refine wpAny_mono (run_fn (dvs := []) (ds := []) (us := [.ref b, v]) (vs := [.ref b, x]) F hr hb .nil hx I r2 q) ?_ fun _ _ z => z
  rintro w s' ⟨z, H', I', rz, ⟨c, rfl, qz⟩⟩
  obtain rfl : w = Value.bool c := rz
  exact wpAny_truthy_bool ⟨V.bl (!c), H', I', rfl, qz⟩
def rLenOwn (C : Addr) (sp : Sp) (E : XK) : List V → Hp → VK → Prop := fun xs H Q => ∃ b dx fs, xs = [.ref b] ∧ H b = some (.ins C dx fs) ∧ sp [.ref b] H (fun v H' => ∃ k : Nat, v = .int (k : Nat) ∧ k < 2 ^ 62 ∧ Q (.int (k : Nat)) H') E
theorem call_lenOwn {sp : Sp} (F : FnOk X.prog X.w X.K X.mg X.base CX0 n f fd ps sp) (hs : PySem.W.findIn X.K (.ref C) "__len__" = some (some (.ref f))) (hf : PySem.W.isFn X.K (.ref f) = true) (hb : Binds X.K fd ps []) (hr : Room (n + 1) X.A) : CallR X (.builtin "len") (rLenOwn C sp E) := by
  intro pins s σ H xs us Q I r ⟨b, dx, fs, ex, hb', q⟩
  subst ex
  obtain ⟨u, rfl, rx⟩ := vals1 r
  obtain rfl : u = Value.ref b := rx
  obtain ⟨mA, J, _⟩ := ins_get I.hok hb'
  obtain ⟨od, J, _⟩ := J.look
  obtain ⟨m, hF⟩ := I.fr
  have r2 : Vals [V.ref b] [Value.ref b] := .cons rfl .nil
  refine PySem.W.len_K hF I.ok.mod.kin J hs hf ?_
  have hl : ([Value.ref b] : List Value).length = ps.length := by rw [← r2.length]; exact F.len _ _ _ _ q
  refine wpAny_call (codeAny_mono (F.run X.A.in1 X.stack s H ⟨[.ref b], []⟩ [.ref b] [.ref b] _ E hr.in1 I.env0.in1 (by have := hb s [.ref b] I.kIn (by rw [List.append_nil]; exact hl); rw [List.append_nil] at this; exact this) r2 q) fun r s' hq => ?_)
  cases r with
  | error e => exact hq.elim
  | ok fl =>
    cases fl with
    | ret u =>
      obtain ⟨v, H', I3, rv, k, ev, hk, q4⟩ := I.after hq
      subst ev
      obtain ⟨t, rfl⟩ := rv
      refine ⟨⟨by omega, by omega⟩, V.int (k : Nat), H', I3.tok _, ⟨_, rfl⟩, q4⟩
    | next => exact hq.elim
    | brk => exact hq.elim
    | cont => exact hq.elim
end
end J

set_option Elab.async false
set_option linter.all false
set_option maxRecDepth 100000
set_option maxHeartbeats 4000000
namespace J
open PySem PySem.Spec PyProof.Rows L2
abbrev s_NoGuest_init : Stmt := inClass (top 6) 0
theorem sc_NoGuest_init : FnScope ["self", "label"] ["self", "label"] (defScope s_NoGuest_init) := ⟨rfl, rfl, rfl, by decide +kernel, rfl, by decide +kernel, by decide +kernel⟩
abbrev s_Alike_init : Stmt := inClass (top 7) 0
theorem sc_Alike_init : FnScope ["self", "label"] ["self", "label"] (defScope s_Alike_init) := ⟨rfl, rfl, rfl, by decide +kernel, rfl, by decide +kernel, by decide +kernel⟩
abbrev s_Company_len : Stmt := inClass (top 18) 1
theorem sc_Company_len : FnScope ["self"] ["self"] (defScope s_Company_len) := ⟨rfl, rfl, rfl, by decide +kernel, rfl, by decide +kernel, by decide +kernel⟩
abbrev s_Company_contains : Stmt := inClass (top 18) 2
theorem sc_Company_contains : FnScope ["self", "label"] ["self", "label"] (defScope s_Company_contains) := ⟨rfl, rfl, rfl, by decide +kernel, rfl, by decide +kernel, by decide +kernel⟩
abbrev s_Company_place_of : Stmt := inClass (top 18) 5
theorem sc_Company_place_of : FnScope ["self", "label"] ["self", "label"] (defScope s_Company_place_of) := ⟨rfl, rfl, rfl, by decide +kernel, rfl, by decide +kernel, by decide +kernel⟩
abbrev s_Company_tie_of : Stmt := inClass (top 18) 6
theorem sc_Company_tie_of : FnScope ["self", "x", "y", "first", "second"] ["self", "x", "y"] (defScope s_Company_tie_of) := ⟨rfl, rfl, rfl, by decide +kernel, rfl, by decide +kernel, by decide +kernel⟩
theorem cf_places (t g r b p : Addr) : (cf t g r b p).lookup ("_places" : Str) = some (.ref p) := by
  unfold cf
  rw [lookup_putF, if_pos rfl]
theorem cf_table (t g r b p : Addr) : (cf t g r b p).lookup ("table" : Str) = some (.ref b) := by
  unfold cf f4
  rw [lookup_putF, if_neg ne_table__places, lookup_putF, if_pos rfl]
theorem cf_ties (t g r b p : Addr) : (cf t g r b p).lookup ("ties" : Str) = some (.ref t) := by
  unfold cf f4 f3 f2 f1
  rw [lookup_putF, if_neg ne_ties__places, lookup_putF, if_neg ne_ties_table, lookup_putF, if_neg ne_ties_rows, lookup_putF, if_neg ne_ties_guests, lookup_putF, if_pos rfl]
theorem cf_no (t g r b p : Addr) {m : Str} (h1 : ¬ m = "_places") (h2 : ¬ m = "table") (h3 : ¬ m = "rows") (h4 : ¬ m = "guests") (h5 : ¬ m = "ties") : (cf t g r b p).lookup m = none := by
  unfold cf f4 f3 f2 f1
  rw [lookup_putF, if_neg h1, lookup_putF, if_neg h2, lookup_putF, if_neg h3, lookup_putF, if_neg h4, lookup_putF, if_neg h5]
  rfl
/-- where v stands among the guests is -/
def seat (is : List Int) (v : V) : Option Nat := match v with
  | .int n => is.findIdx? fun y => decide (y = n)
  | _ => none
theorem seat_at {is : List Int} (a : Asc is) {j : Nat} {n : Int} (h : is[j]? = some n) : seat is (.int n) = some j := by
  show is.findIdx? _ = some j
  rw [List.findIdx?_eq_some_iff_getElem]
  have hj := (List.getElem?_eq_some_iff.mp h).1
  refine ⟨hj, decide_eq_true (List.getElem?_eq_some_iff.mp h).2, fun i hi => ?_⟩
  have e := List.getElem?_eq_getElem (l := is) (i := i) (by omega)
  intro q
  have q' := of_decide_eq_true q
  rw [q'] at e
  have := a.inj e h
  omega
theorem seat_some {is : List Int} {v : V} {j : Nat} (h : seat is v = some j) : ∃ n, v = .int n ∧ is[j]? = some n ∧ j < is.length := by
  cases v with
  | int n =>
    have h' : is.findIdx? (fun y => decide (y = n)) = some j := h
    rw [List.findIdx?_eq_some_iff_getElem] at h'
    obtain ⟨hj, e, _⟩ := h'
    have e' := of_decide_eq_true e
    exact ⟨n, rfl, by rw [List.getElem?_eq_getElem hj, e'], hj⟩
  | _ => cases h
def spCLen (C CC : Addr) : Sp := fun vs H Q _ => ∃ (x : Addr) (ns is : List Int) (tss : List (List Int)), vs = [.ref x] ∧ CompAt C CC H x ns is tss ∧ Q (.int (is.length : Nat)) H
def spCIn (C CC : Addr) : Sp := fun vs H Q _ => ∃ (x : Addr) (ns is : List Int) (tss : List (List Int)) (v : V) (s : Sh), vs = [.ref x, v] ∧ CompAt C CC H x ns is tss ∧ Is H v s ∧ Q (.bl (seat is v).isSome) H
def spCPlace (C CC CN : Addr) : Sp := fun vs H Q E => ∃ (x : Addr) (ns is : List Int) (tss : List (List Int)) (v : V) (s : Sh), vs = [.ref x, v] ∧ CompAt C CC H x ns is tss ∧ Is H v s ∧ (∀ j, seat is v = some j → Q (.int (j : Nat)) H) ∧ (seat is v = none → Tells H CN "label" v E)
def spCTie (C CC CN CL : Addr) : Sp := fun vs H Q E => ∃ (x : Addr) (ns is : List Int) (tss : List (List Int)) (v u : V) (s s' : Sh), vs = [.ref x, v, u] ∧ CompAt C CC H x ns is tss ∧ Is H v s ∧ Is H u s' ∧
  (seat is v = none → Tells H CN "label" v E) ∧ (∀ i, seat is v = some i → seat is u = none → Tells H CN "label" u E) ∧ (∀ i, seat is v = some i → seat is u = some i → Tells H CL "label" v E) ∧ (∀ i j, seat is v = some i → seat is u = some j → i ≠ j → Q (cell ns tss i j) H)
section
variable {P : Program} {w : World} {K : PySem.W.Frag} {mg : Str → Option Value} {base : Heap}
theorem ok_NoGuest_init {f C : Addr} {fd : FuncData} (F : Fun K "__init__" "NoGuest.__init__" s_NoGuest_init f fd) (o : OexC K C) (no : PySem.W.findIn K (.ref C) "label" = some none) : FnOk P w K mg base CX0 1 f fd ["self", "label"] (spXI C "label") := by
  refine F.ok sc_NoGuest_init (fun vs H Q E h => ?_) (fun cdv A outer s H vs Q E hr h => ?_)
  · obtain ⟨x, s, rfl, _⟩ := h
    rfl
  · obtain ⟨a, v, rfl, ha, k⟩ := h
    refine ⟨_, pss_one (ps_ost (pv 0) (pv 1)), ?_⟩
    exact ⟨_, rfl, _, rfl, a, C, rfl, o, no, .inl ⟨ha, k⟩⟩
theorem ok_Alike_init {f C : Addr} {fd : FuncData} (F : Fun K "__init__" "Alike.__init__" s_Alike_init f fd) (o : OexC K C) (no : PySem.W.findIn K (.ref C) "label" = some none) : FnOk P w K mg base CX0 1 f fd ["self", "label"] (spXI C "label") := by
  refine F.ok sc_Alike_init (fun vs H Q E h => ?_) (fun cdv A outer s H vs Q E hr h => ?_)
  · obtain ⟨x, s, rfl, _⟩ := h
    rfl
  · obtain ⟨a, v, rfl, ha, k⟩ := h
    refine ⟨_, pss_one (ps_ost (pv 0) (pv 1)), ?_⟩
    exact ⟨_, rfl, _, rfl, a, C, rfl, o, no, .inl ⟨ha, k⟩⟩
theorem ok_Company_len {f C CC : Addr} {fd : FuncData} (F : Fun K "__len__" "Company.__len__" s_Company_len f fd) (c : CoC K CC) (nl : mg "len" = none) : FnOk P w K mg base CX0 1 f fd ["self"] (spCLen C CC) := by
  refine F.ok sc_Company_len (fun vs H Q E h => ?_) (fun cdv A outer s H vs Q E hr h => ?_)
  · obtain ⟨x, ns, is, tss, rfl, _⟩ := h
    rfl
  · obtain ⟨x, ns, is, tss, rfl, ⟨dx, t, g, r, b, p, ps, kvs, a1, a2, a3, _⟩, k⟩ := h
    refine ⟨_, (pss_one (ps_ret (pe_callB call_len_seq (by rfl) nl PySem.boot_len (pa_cons (pe_fld (pv 0) rfl) pa_nil)))), ?_⟩
    refine ⟨_, rfl, x, CC, dx, _, _, rfl, a1, c.cl, c.nG, cf_guests _ _ _ _ _, g, _, rfl, .inr (SqT.of a3), ?_⟩
    rw [List.length_map]
    exact k
theorem ok_Company_contains {f C CC fL : Addr} {fd fdL : FuncData} (F : Fun K "__contains__" "Company.__contains__" s_Company_contains f fd) (c : CoC K CC) (GL : Cal P w K mg base CX0 2 "is_label" fL fdL ["thing"] spLabel) : FnOk P w K mg base CX0 3 f fd ["self", "label"] (spCIn C CC) := by
  refine F.ok sc_Company_contains (fun vs H Q E h => ?_) (fun cdv A outer s H vs Q E hr h => ?_)
  · obtain ⟨x, ns, is, tss, v, s, rfl, _⟩ := h
    rfl
  · obtain ⟨x, ns, is, tss, v, s, rfl, ⟨dx, t, g, r, b, p, ps, kvs, a1, a2, a3, a4, a5, a6, a7, a8, a9, a10, a11⟩, hv, k⟩ := h
    refine ⟨_, (pss_one (ps_ret (pe_and (pcal GL hr pass0 (pa_cons (pv 1) pa_nil)) (pe_one (pe_cmp (pc_din (hu_of hr) (pv 1) (pe_fld (pv 0) rfl))))))), ?_⟩
    refine ⟨_, rfl, v, s, rfl, hv, _, rfl, ?_⟩
    cases e : wholeB v 0 1000000000 with
    | false =>
      have e2 : seat is v = none := by
        cases q : seat is v with
        | none => rfl
        | some j =>
          obtain ⟨n, rfl, hn, _⟩ := seat_some q
          obtain ⟨b0, b1⟩ := a11 n (List.mem_of_getElem? hn)
          rw [whole_of b0 b1] at e
          cases e
      rw [e2] at k
      exact if_fa rfl k
    | true =>
      obtain ⟨n, rfl, _, _⟩ := whole_int e
      refine if_tr rfl ⟨_, rfl, _, rfl, x, CC, dx, _, _, rfl, a1, c.cl, c.nP, cf_places _ _ _ _ _, p, _, rfl, DGet.k (k := Sum.inl n) a6, ?_⟩
      rw [a7]
      have e3 : (place is (Sum.inl n)).isSome = (seat is (.int n)).isSome := by
        show (Option.map _ (is.findIdx? _)).isSome = (is.findIdx? _).isSome
        rw [Option.isSome_map]
      rw [e3]
      exact k
theorem ok_Company_place_of {f C CC CN fC fN : Addr} {fd fdC fdN : FuncData} (F : Fun K "place_of" "Company.place_of" s_Company_place_of f fd) (c : CoC K CC)
    (FC : FnOk P w K mg base CX0 3 fC fdC ["self", "label"] (spCIn C CC)) (aC : PySem.W.findIn K (.ref CC) "__contains__" = some (some (.ref fC))) (iC : PySem.W.isFn K (.ref fC) = true) (bC : Binds K fdC ["self", "label"] [])
    (GN : Ex P w K mg base "NoGuest" "label" CN fN fdN ["self", "label"]) : FnOk P w K mg base (L2.CX P w) 4 f fd ["self", "label"] (spCPlace C CC CN) := by
  refine F.okX sc_Company_place_of (fun vs H Q E h => ?_) (fun cdv A outer s H vs Q E hr h => ?_)
  · obtain ⟨x, ns, is, tss, v, s, rfl, _⟩ := h
    rfl
  · obtain ⟨x, ns, is, tss, v, s, rfl, hC, hv, k1, k2⟩ := h
    obtain ⟨dx, t, g, r, b, p, ps, kvs, a1, a2, a3, a4, a5, a6, a7, a8, a9, a10, a11⟩ := id hC
    have hr2 : Room 2 _ := hr.mono (by decide)
    refine ⟨_, (pss_cons 
  (ps_if (pt_cmpR (op_niOwn FC aC iC bC pass0 hr) (pv 1) (pv 0) (by rfl)) (pss_one 
    (ps_raise rfl (takes_of rfl rfl rfl rfl) (pmk_oex GN.o GN.i GN.t GN.F hr2 GN.b .nil pass0 rfl GN.m (pa_cons (pv 1) pa_nil)))) pss_nil) (pss_one 
  (ps_ret (pe_dget (hu_of hr) (pe_fld (pv 0) rfl) (pv 1) (fun _ _ => rfl))))), ?_⟩
    refine ⟨_, rfl, _, rfl, x, dx, _, rfl, a1, ⟨x, ns, is, tss, v, s, rfl, hC, hv, _, rfl, _, rfl, ?_⟩⟩
    cases e : seat is v with
    | none => exact iteT ⟨_, rfl, mkO_of (k2 e)⟩
    | some j =>
      obtain ⟨n, rfl, hn, _⟩ := seat_some e
      refine iteF ⟨_, rfl, x, CC, dx, _, _, rfl, a1, c.cl, c.nP, cf_places _ _ _ _ _, _, rfl, p, _, rfl, ?_, k1 j e⟩
      have q := DGet.k (k := Sum.inl n) a6
      have e2 : valV kvs (Sum.inl n) = some (.int (j : Nat)) := by
        rw [a7]
        have e' : is.findIdx? (fun y => decide (y = n)) = some j := e
        show Option.map _ (is.findIdx? _) = _
        rw [e']
        rfl
      rw [e2] at q
      exact q
theorem ok_Company_tie_of {f C CC CN CL fP fL : Addr} {fd fdP fdL : FuncData} (F : Fun K "tie_of" "Company.tie_of" s_Company_tie_of f fd) (c : CoC K CC)
    (GP : Mt P w K mg base (L2.CX P w) 4 CC "place_of" fP fdP ["self", "label"] (spCPlace C CC CN)) (GA : Ex P w K mg base "Alike" "label" CL fL fdL ["self", "label"]) : FnOk P w K mg base (L2.CX P w) 5 f fd ["self", "x", "y"] (spCTie C CC CN CL) := by
  refine F.okX sc_Company_tie_of (fun vs H Q E h => ?_) (fun cdv A outer s H vs Q E hr h => ?_)
  · obtain ⟨x, ns, is, tss, v, u, s, s', rfl, _⟩ := h
    rfl
  · obtain ⟨x, ns, is, tss, v, u, s, s', rfl, hC, hv, hu, k1, k2, k3, k4⟩ := h
    obtain ⟨dx, t, g, r, b, p, ps, kvs, a1, a2, a3, a4, a5, a6, a7, a8, a9, a10, a11⟩ := id hC
    have hr2 : Room 2 _ := hr.mono (by decide)
    refine ⟨_, (pss_cons 
  (ps_set (i := 3) sc_Company_tie_of.nd rfl (Or.inl rfl) (pe_meth (pv 0) c.cl GP.M GP.F hr GP.b .nil (passes_call (takes_of rfl rfl rfl rfl) (fun _ _ _ _ h => h)) (pa_cons (pv 1) pa_nil))) (pss_cons 
  (ps_set (i := 4) sc_Company_tie_of.nd rfl (Or.inl rfl) (pe_meth (pv 0) c.cl GP.M GP.F hr GP.b .nil (passes_call (takes_of rfl rfl rfl rfl) (fun _ _ _ _ h => h)) (pa_cons (pv 2) pa_nil))) (pss_cons 
  (ps_if (pt_cmpR op_eq (pv 3) (pv 4) (nomark _)) (pss_one 
    (ps_raise rfl (takes_of rfl rfl rfl rfl) (pmk_oex GA.o GA.i GA.t GA.F hr2 GA.b .nil pass0 rfl GA.m (pa_cons (pv 1) pa_nil)))) pss_nil) (pss_one 
  (ps_ret (pe_ix ix_tup (pe_ix ix_tup (pe_fld (pv 0) rfl) (pv 3) (fun _ _ => rfl)) (pv 4) (fun _ _ => rfl))))))), ?_⟩
    refine ⟨_, rfl, x, dx, _, rfl, a1, cf_no _ _ _ _ _ (by decide +kernel) (by decide +kernel) (by decide +kernel) (by decide +kernel) (by decide +kernel), _, rfl, x, ns, is, tss, v, s, rfl, hC, hv, fun i ei => ?_, fun e => k1 e⟩
    refine ⟨_, rfl, x, dx, _, rfl, a1, cf_no _ _ _ _ _ (by decide +kernel) (by decide +kernel) (by decide +kernel) (by decide +kernel) (by decide +kernel), _, rfl, x, ns, is, tss, u, s', rfl, hC, hu, fun j ej => ?_, fun e => k2 i ei e⟩
    refine ⟨_, rfl, _, rfl, rfl, _, rfl, ?_⟩
    refine ifD (fun cc => ?_) (fun cc => ?_)
    · have ij : i = j := by injection cc with cc; omega
      subst ij
      exact ⟨_, rfl, mkO_of (k3 i ei ej)⟩
    · have ij : i ≠ j := fun q => cc (by rw [q])
      obtain ⟨_, _, _, hi⟩ := seat_some ei
      obtain ⟨_, _, _, hj⟩ := seat_some ej
      obtain ⟨us, u1, u2, u3⟩ := a5
      have eu := List.getElem?_eq_getElem (l := us) (i := i) (by omega)
      generalize us[i]'(by omega) = ui at eu
      obtain ⟨xs, x1, x2, x3⟩ := u3 i ui eu
      refine ⟨_, rfl, x, CC, dx, _, _, rfl, a1, c.cl, c.nB, cf_table _ _ _ _ _, _, rfl, _, _, _, _, rfl, rfl, SqT.of u1, at_of (j := i) (v := .ref ui) rfl (by rw [List.getElem?_map, eu]; rfl), _, rfl, _, _, _, _, rfl, rfl, SqT.of x1, at_of (j := j) rfl (x3 j (by omega)), k4 i j ei ej ij⟩
end
end J

set_option Elab.async false
set_option linter.all false
set_option maxRecDepth 100000
set_option maxHeartbeats 4000000
namespace J
open PySem PySem.Spec PyProof.Rows L2
abbrev s_Company_row_of : Stmt := inClass (top 18) 7
theorem sc_Company_row_of : FnScope ["self", "label", "place", "line"] ["self", "label"] (defScope s_Company_row_of) := ⟨rfl, rfl, rfl, by decide +kernel, rfl, by decide +kernel, by decide +kernel⟩
/-- the row of the guest at place j: his ties to the others in their order -/
def RowOf (ns : List Int) (tss : List (List Int)) (n j : Nat) (ys : List V) : Prop := ys.length + 1 = n ∧ ∀ b, b + 1 < n → ys[b]? = some (cell ns tss j (if b < j then b else b + 1))
def spCRow (C CC CN : Addr) : Sp := fun vs H Q E => ∃ (x : Addr) (ns is : List Int) (tss : List (List Int)) (v : V) (s : Sh), vs = [.ref x, v] ∧ CompAt C CC H x ns is tss ∧ Is H v s ∧ (seat is v = none → Tells H CN "label" v E) ∧
  ∀ j, seat is v = some j → ∀ (H' : Hp) (z : Addr) (ys : List V), Same H H' → H' z = some (.tup ys) → RowOf ns tss is.length j ys → Q (.ref z) H'
theorem cut_row {ns : List Int} {tss : List (List Int)} {n j : Nat} {xs : List V} (hl : xs.length = n) (hf : ∀ b, b < n → xs[b]? = some (cell ns tss j b)) (hj : j < n) : RowOf ns tss n j (xs.take j ++ xs.drop (j + 1)) := by
  refine ⟨by rw [List.length_append, List.length_take, List.length_drop]; omega, fun b hb => ?_⟩
  by_cases c : b < j
  · rw [if_pos c, List.getElem?_append_left (by rw [List.length_take]; omega), List.getElem?_take_of_lt c]
    exact hf b (by omega)
  · rw [if_neg c, List.getElem?_append_right (by rw [List.length_take]; omega), List.getElem?_drop, List.length_take, show j + 1 + (b - min j xs.length) = b + 1 by omega]
    exact hf _ hb
section
variable {P : Program} {w : World} {K : PySem.W.Frag} {mg : Str → Option Value} {base : Heap}
theorem ok_Company_row_of {f C CC CN fP : Addr} {fd fdP : FuncData} (F : Fun K "row_of" "Company.row_of" s_Company_row_of f fd) (c : CoC K CC)
    (GP : Mt P w K mg base (L2.CX P w) 4 CC "place_of" fP fdP ["self", "label"] (spCPlace C CC CN)) : FnOk P w K mg base (L2.CX P w) 5 f fd ["self", "label"] (spCRow C CC CN) := by
  refine F.okX sc_Company_row_of (fun vs H Q E h => ?_) (fun cdv A outer s H vs Q E hr h => ?_)
  · obtain ⟨x, ns, is, tss, v, s, rfl, _⟩ := h
    rfl
  · obtain ⟨x, ns, is, tss, v, s, rfl, hC, hv, k1, k2⟩ := h
    obtain ⟨dx, t, g, r, b, p, ps, kvs, a1, a2, a3, a4, a5, a6, a7, a8, a9, a10, a11⟩ := id hC
    refine ⟨_, (pss_cons 
  (ps_set (i := 2) sc_Company_row_of.nd rfl (Or.inl rfl) (pe_meth (pv 0) c.cl GP.M GP.F hr GP.b .nil (passes_call (takes_of rfl rfl rfl rfl) (fun _ _ _ _ h => h)) (pa_cons (pv 1) pa_nil))) (pss_cons 
  (ps_set (i := 3) sc_Company_row_of.nd rfl (Or.inl rfl) (pe_ix ix_tup (pe_fld (pv 0) rfl) (pv 2) (fun _ _ => rfl))) (pss_one 
  (ps_ret (pe_op op_catA (pe_slice sl_tup (pv 3) po_none (po_some (pv 2))) (pe_slice sl_tup (pv 3) (po_some (pe_op op_add (pv 2) pe_int)) po_none)))))), ?_⟩
    refine ⟨_, rfl, x, dx, _, rfl, a1, cf_no _ _ _ _ _ (by decide +kernel) (by decide +kernel) (by decide +kernel) (by decide +kernel) (by decide +kernel), _, rfl, x, ns, is, tss, v, s, rfl, hC, hv, fun j ej => ?_, fun e => k1 e⟩
    obtain ⟨_, _, _, hj⟩ := seat_some ej
    obtain ⟨us, u1, u2, u3⟩ := a5
    have eu := List.getElem?_eq_getElem (l := us) (i := j) (by omega)
    generalize us[j]'(by omega) = uj at eu
    obtain ⟨xs, x1, x2, x3⟩ := u3 j uj eu
    have xl : xs.length = is.length := by omega
    have six1 : HT.sIx xs.length xs.length (some ((j : Nat) : Int)) = j := by rw [HT.sIx_nat]; omega
    have six2 : HT.sIx xs.length 0 (some (((j : Nat) : Int) + 1)) = j + 1 := by
      rw [show (((j : Nat) : Int) + 1) = ((j + 1 : Nat) : Int) by omega, HT.sIx_nat]
      omega
    refine ⟨_, rfl, x, CC, dx, _, _, rfl, a1, c.cl, c.nB, cf_table _ _ _ _ _, _, rfl, _, _, _, _, rfl, rfl, SqT.of u1, at_of (j := j) (v := .ref uj) rfl (by rw [List.getElem?_map, eu]; rfl), ?_⟩
    refine ⟨_, rfl, _, rfl, _, rfl, uj, xs, rfl, SqT.of x1, (fun z => by rw [six1] at z; omega), fun p1 hp1 => ?_⟩
    have c1 : cutV xs none (some ((j : Nat) : Int)) = xs.take j := by
      unfold cutV
      rw [six1, HT.sIx_none]
      simp
    rw [c1]
    have T1 : Same H (upd H p1 (.tup (xs.take j))) := new_same hp1
    have e1 : (upd H p1 (.tup (xs.take j))) p1 = some (.tup (xs.take j)) := upd_same
    generalize upd H p1 (.tup (xs.take j)) = H1 at T1 e1
    refine ⟨_, rfl, _, rfl, _, _, rfl, rfl, _, rfl, uj, xs, rfl, SqT.of (T1 _ _ x1), (fun z => by rw [six2] at z; omega), fun p2 hp2 => ?_⟩
    have c2 : cutV xs (some (((j : Nat) : Int) + 1)) none = xs.drop (j + 1) := by
      unfold cutV
      rw [six2, HT.sIx_none]
      exact List.take_of_length_le (by rw [List.length_drop]; omega)
    rw [c2]
    have T2 : Same H1 (upd H1 p2 (.tup (xs.drop (j + 1)))) := new_same hp2
    have e2 : (upd H1 p2 (.tup (xs.drop (j + 1)))) p2 = some (.tup (xs.drop (j + 1))) := upd_same
    generalize upd H1 p2 (.tup (xs.drop (j + 1))) = H2 at T2 e2
    have fin : ∀ (H' : Hp) (z : Addr), Same H2 H' → H' z = some (.tup (xs.take j ++ xs.drop (j + 1))) → Q (.ref z) H' := fun H' z S e => k2 j ej H' z _ ((T1.trans T2).trans S) e (cut_row xl (fun b hb => x3 b (by omega)) hj)
    refine ⟨p1, p2, _, _, rfl, rfl, SqT.of (T2 _ _ e1), SqT.of e2, by rw [List.length_take, List.length_drop]; show _ ≤ 16777216; omega, fun z => fin H2 p2 (Same.refl _) (by rw [z]; exact e2), fun _ z => fin H2 p1 (Same.refl _) (by rw [z, List.append_nil]; exact T2 _ _ e1), fun _ _ p3 hp3 => fin _ p3 (new_same hp3) upd_same⟩
end
end J

set_option Elab.async false
set_option linter.all false
set_option maxRecDepth 100000
set_option maxHeartbeats 4000000
namespace J
open PySem PySem.Spec PyProof.Rows L2
structure TiX (K : PySem.W.Frag) (mg : Str → Option Value) (C : Addr) : Prop extends TiC K C where
  isc : C8.InsC K C
  nt : PySem.W.kitOne K (.type "tuple") (.ref C) = some false
  nf : PySem.W.notFirst K C (.type "tuple") = true
  mT : mg "Ties" = some (.ref C)
structure CoX (K : PySem.W.Frag) (mg : Str → Option Value) (C : Addr) : Prop extends CoC K C where
  isc : C8.InsC K C
  mC : mg "Company" = some (.ref C)
abbrev s_Ties_eq : Stmt := inClass (top 14) 1
theorem sc_Ties_eq : FnScope ["self", "other"] ["self", "other"] (defScope s_Ties_eq) := ⟨rfl, rfl, rfl, by decide +kernel, rfl, by decide +kernel, by decide +kernel⟩
def spTEq (C : Addr) : Sp := fun vs H Q _ => ∃ (a b : Addr) (ns : List Int), vs = [.ref a, .ref b] ∧ TiesAt C H a ns ∧ ((∃ ms, TiesAt C H b ms ∧ Q (.bl (decide (ns = ms))) H) ∨ ((∃ ys, H b = some (.tup ys)) ∧ Q (.bl false) H))
abbrev s_Company_eq : Stmt := inClass (top 18) 4
theorem sc_Company_eq : FnScope ["self", "other"] ["self", "other"] (defScope s_Company_eq) := ⟨rfl, rfl, rfl, by decide +kernel, rfl, by decide +kernel, by decide +kernel⟩
def spCEq (C CC : Addr) : Sp := fun vs H Q _ => ∃ (x y : Addr) (ns ms is js : List Int) (tss uss : List (List Int)), vs = [.ref x, .ref y] ∧ CompAt C CC H x ns is tss ∧ CompAt C CC H y ms js uss ∧ Q (.bl (decide (ns = ms ∧ is = js ∧ tss = uss))) H
/-- rows as data -/
def rowsD (tss : List (List Int)) : List PyData := tss.map fun ts => .tuple (ts.map PyData.int)
theorem eqv_rowsD : ∀ tss uss : List (List Int), PyData.eqvAll (rowsD tss) (rowsD uss) = decide (tss = uss)
  | [], [] => by simp [rowsD, PyData.eqvAll]
  | [], u :: us => by simp [rowsD, PyData.eqvAll]
  | t :: ts, [] => by simp [rowsD, PyData.eqvAll]
  | t :: ts, u :: us => by
    have ih := eqv_rowsD ts us
    have h1 := eqv_ti t u
    show (PyData.eqv (.tuple (t.map PyData.int)) (.tuple (u.map PyData.int)) && PyData.eqvAll (rowsD ts) (rowsD us)) = _
    rw [h1, ih]
    by_cases h : t = u
    · by_cases h2 : ts = us
      · simp [h, h2]
      · simp [h, h2]
    · simp [h]
theorem lay_rowsD : ∀ tss : List (List Int), PyData.canLayAll0 (rowsD tss) = true ∧ PyData.depthAll (rowsD tss) ≤ 2
  | [] => by simp [rowsD, PyData.canLayAll0, PyData.depthAll]
  | t :: ts => by
    obtain ⟨a, b⟩ := lay_rowsD ts
    have h1 := ints_lay t
    have h2 := ints_depth t
    refine ⟨?_, ?_⟩
    · show (PyData.canLay0 (.tuple (t.map PyData.int)) && PyData.canLayAll0 (rowsD ts)) = true
      rw [a, Bool.and_true]
      simp only [PyData.canLay0]
      exact h1
    · show max (PyData.depth (.tuple (t.map PyData.int))) (PyData.depthAll (rowsD ts)) ≤ 2
      simp only [PyData.depth]
      omega
theorem shaped_rowsD (tss : List (List Int)) : SeqAt.shaped (.tuple (rowsD tss)) = true := by
  obtain ⟨a, b⟩ := lay_rowsD tss
  show (PyData.canLay0 (.tuple (rowsD tss)) && decide (PyData.depth (.tuple (rowsD tss)) ≤ 64)) = true
  rw [Bool.and_eq_true]
  refine ⟨by simp only [PyData.canLay0]; exact a, decide_eq_true ?_⟩
  simp only [PyData.depth]
  omega
theorem dp_rowsD {K : PySem.W.Frag} {H : Hp} : ∀ {ps : List Addr} {tss : List (List Int)}, ps.length = tss.length → (∀ (j : Nat) (a : Addr) (ts : List Int), ps[j]? = some a → tss[j]? = some ts → H a = some (.tup (ts.map V.int))) → DpAll K H (ps.map V.ref) (rowsD tss)
  | [], [], _, _ => .nil
  | [], _ :: _, h, _ => by cases h
  | _ :: _, [], h, _ => by cases h
  | p :: ps, t :: ts, h, f => .cons (.tup (SqT.of (f 0 p t rfl rfl)) (dp_ints t)) (dp_rowsD (Nat.succ.inj h) fun j a b e1 e2 => f (j + 1) a b (by simpa using e1) (by simpa using e2))
section
variable {P : Program} {w : World} {K : PySem.W.Frag} {mg : Str → Option Value} {base : Heap}
theorem ok_Ties_eq {f C : Addr} {fd : FuncData} (F : Fun K "__eq__" "Ties.__eq__" s_Ties_eq f fd) (T : TiX K mg C) (nis : mg "isinstance" = none) : FnOk P w K mg base CX0 1 f fd ["self", "other"] (spTEq C) := by
  refine F.ok sc_Ties_eq (fun vs H Q E h => ?_) (fun cdv A outer s H vs Q E hr h => ?_)
  · obtain ⟨a, b, ns, rfl, _⟩ := h
    rfl
  · obtain ⟨a, b, ns, rfl, ⟨dx, t, ha, ht⟩, h⟩ := h
    refine ⟨_, (pss_one 
  (ps_ret (pe_and (pe_callB call_isi (by rfl) nis (by decide +kernel) (pa_cons (pv 1) (pa_cons (pe_glob (v := .ref C) rfl T.mT rfl) pa_nil))) (pe_one (pe_cmpR (op_eqD hr.units) (pe_fld (pv 0) rfl) (pe_fld (pv 1) rfl) (nomark _)))))), ?_⟩
    rcases h with ⟨ms, ⟨dy, u, hb, hu⟩, k⟩ | ⟨⟨ys, hb⟩, k⟩
    · refine ⟨_, rfl, _, _, _, _, true, rfl, .own C, .base (.ins hb T.cl T.isc.ha T.isc.hn T.isc.htk T.isc.hm), T.isc.me, _, rfl, if_tr rfl ?_⟩
      refine ⟨_, rfl, a, C, dx, _, _, rfl, ha, T.cl, T.nB, tf_backs _ _, _, rfl, b, C, dy, _, _, rfl, hb, T.cl, T.nB, tf_backs _ _, _, _, .tup (SqT.of ht) (dp_ints ns), .tup (SqT.of hu) (dp_ints ms), shaped_ti ns, shaped_ti ms, ?_⟩
      rw [eqv_ti]
      exact k
    · exact ⟨_, rfl, _, _, _, _, false, rfl, .own C, .base (.tup hb), T.nt, _, rfl, if_fa rfl k⟩
theorem ok_Company_eq {f C CC fE : Addr} {fd fdE : FuncData} (F : Fun K "__eq__" "Company.__eq__" s_Company_eq f fd) (T : TiX K mg C) (c : CoX K mg CC) (nis : mg "isinstance" = none)
    (FE : FnOk P w K mg base CX0 1 fE fdE ["self", "other"] (spTEq C)) (aE : PySem.W.findIn K (.ref C) "__eq__" = some (some (.ref fE))) (iE : PySem.W.isFn K (.ref fE) = true) (bE : Binds K fdE ["self", "other"] []) : FnOk P w K mg base CX0 2 f fd ["self", "other"] (spCEq C CC) := by
  refine F.ok sc_Company_eq (fun vs H Q E h => ?_) (fun cdv A outer s H vs Q E hr h => ?_)
  · obtain ⟨x, y, ns, ms, is, js, tss, uss, rfl, _⟩ := h
    rfl
  · obtain ⟨x, y, ns, ms, is, js, tss, uss, rfl, ⟨dx, t, g, r, b, p, ps, kvs, a1, a2, a3, a4, _⟩, ⟨dy, t', g', r', b', p', ps', kvs', c1, c2, c3, c4, _⟩, k⟩ := h
    refine ⟨_, (pss_cons 
  (ps_if (pt_not (pt_val (pe_callB call_isi (by rfl) nis (by decide +kernel) (pa_cons (pv 1) (pa_cons (pe_glob (v := .ref CC) rfl c.mC rfl) pa_nil))))) (pss_one 
    (ps_ret pe_bl)) pss_nil) (pss_one 
  (ps_ret (pe_and (pe_cmpR (op_eqOwn FE aE iE bE pass0 hr T.nf) (pe_fld (pv 0) rfl) (pe_fld (pv 1) rfl) (nomark _)) (pe_and (pe_cmpR (op_eqD hr.units) (pe_fld (pv 0) rfl) (pe_fld (pv 1) rfl) (nomark _)) (pe_one (pe_cmpR (op_eqD hr.units) (pe_fld (pv 0) rfl) (pe_fld (pv 1) rfl) (nomark _)))))))), ?_⟩
    obtain ⟨d1, tb1, w1, w2⟩ := id a2
    obtain ⟨d2, tb2, w3, w4⟩ := id c2
    refine ⟨_, rfl, _, _, _, _, true, rfl, .own CC, .base (.ins c1 c.cl c.isc.ha c.isc.hn c.isc.htk c.isc.hm), c.isc.me, _, rfl, iteF ?_⟩
    refine ⟨_, rfl, x, CC, dx, _, _, rfl, a1, c.cl, c.nT, cf_ties _ _ _ _ _, _, rfl, y, CC, dy, _, _, rfl, c1, c.cl, c.nT, cf_ties _ _ _ _ _, t, t', d1, _, rfl, rfl, w1, .inl ⟨d2, _, w3⟩, t, t', ns, rfl, a2, .inl ⟨ms, c2, ⟨_, rfl⟩, _, rfl, ?_⟩⟩
    by_cases h1 : ns = ms
    case neg =>
      refine if_fa (decide_eq_false h1) ?_
      rw [decide_eq_false (fun z => h1 z.1)] at k
      exact k
    refine if_tr (decide_eq_true h1) ?_
    refine ⟨_, rfl, x, CC, dx, _, _, rfl, a1, c.cl, c.nG, cf_guests _ _ _ _ _, _, rfl, y, CC, dy, _, _, rfl, c1, c.cl, c.nG, cf_guests _ _ _ _ _, _, _, .tup (SqT.of a3) (dp_ints is), .tup (SqT.of c3) (dp_ints js), shaped_ti is, shaped_ti js, _, rfl, ?_⟩
    rw [eqv_ti]
    by_cases h2 : is = js
    case neg =>
      refine if_fa (decide_eq_false h2) ?_
      rw [decide_eq_false (fun z => h2 z.2.1)] at k
      exact k
    refine if_tr (decide_eq_true h2) ?_
    refine ⟨_, rfl, x, CC, dx, _, _, rfl, a1, c.cl, c.nR, cf_rows _ _ _ _ _, _, rfl, y, CC, dy, _, _, rfl, c1, c.cl, c.nR, cf_rows _ _ _ _ _, _, _, .tup (SqT.of a4.1) (dp_rowsD a4.2.1 fun j a ts e1 e2 => (a4.2.2 j a ts e1 e2).1), .tup (SqT.of c4.1) (dp_rowsD c4.2.1 fun j a ts e1 e2 => (c4.2.2 j a ts e1 e2).1), shaped_rowsD tss, shaped_rowsD uss, ?_⟩
    have e : PyData.eqv (.tuple (rowsD tss)) (.tuple (rowsD uss)) = decide (ns = ms ∧ is = js ∧ tss = uss) := by
      rw [show PyData.eqv (.tuple (rowsD tss)) (.tuple (rowsD uss)) = PyData.eqvAll (rowsD tss) (rowsD uss) by simp only [PyData.eqv], eqv_rowsD]
      simp [h1, h2]
    rw [e]
    exact k
end
end J

set_option Elab.async false
set_option linter.all false
set_option maxRecDepth 100000
set_option maxHeartbeats 4000000
namespace J
open PySem PySem.Spec PyProof.Rows L2
/-! ### labels that are drawn -/
abbrev s_Llabels : Stmt := top 29
theorem sc_Llabels : FnScope ["_law_hand_here", "_law_many", "_law_base", "_law_step", "_law_k"] ["_law_hand_here", "_law_many"] (defScope s_Llabels) := ⟨rfl, rfl, rfl, by decide +kernel, rfl, by decide +kernel, by decide +kernel⟩
def spLabels : Sp := fun vs H Q _ => ∃ (h q : Addr) (m : Nat), vs = [.ref h, .int (m : Nat)] ∧ m ≤ 1000 ∧ Hand H h q ∧ ∀ (H' : Hp) (l : Addr) (ns : List Int), ns.length = m → Asc ns → (∀ n ∈ ns, 0 ≤ n ∧ n ≤ 1000000000) → But h H H' → Hand H' h q → H l = none → H' l = some (.lst (ns.map V.int)) → Q (.ref l) H'
/-- labels by a first one and a step -/
def LabOk (m : Nat) (c d : Int) : Prop := 0 ≤ c ∧ 1 ≤ d ∧ ∀ k : Nat, k < m → c + (k : Int) * d ≤ 1000000000
def labsOf (m : Nat) (c d : Int) : List Int := (List.range m).map fun k => c + (0 + ((k : Nat) : Int)) * d
theorem labs_at {m : Nat} {c d : Int} {i : Nat} {a : Int} (e : (labsOf m c d)[i]? = some a) : i < m ∧ a = c + (i : Int) * d := by
  have hi := (List.getElem?_eq_some_iff.mp e).1
  unfold labsOf at hi e
  rw [List.length_map, List.length_range] at hi
  rw [List.getElem?_map, List.getElem?_range hi] at e
  have q : c + (0 + (i : Int)) * d = a := Option.some.inj e
  rw [Int.zero_add] at q
  exact ⟨hi, q.symm⟩
theorem labs_asc {m : Nat} {c d : Int} (h : LabOk m c d) : Asc (labsOf m c d) := by
  intro i a b e1 e2
  obtain ⟨_, rfl⟩ := labs_at e1
  obtain ⟨_, rfl⟩ := labs_at e2
  have h1 := h.2.1
  have : ((i + 1 : Nat) : Int) * d = (i : Int) * d + d := by
    rw [show ((i + 1 : Nat) : Int) = (i : Int) + 1 by omega, Int.add_mul, Int.one_mul]
  omega
theorem labs_in {m : Nat} {c d : Int} (h : LabOk m c d) : ∀ n ∈ labsOf m c d, 0 ≤ n ∧ n ≤ 1000000000 := by
  intro n hn
  obtain ⟨i, e⟩ := List.getElem?_of_mem hn
  obtain ⟨hi, rfl⟩ := labs_at e
  have h0 := h.1
  have h1 := h.2.1
  have h2 := h.2.2 i hi
  have h3 : 0 ≤ (i : Int) * d := Int.mul_nonneg (by omega) (by omega)
  omega
theorem labs_small {m : Nat} {c d : Int} (hm : m ≤ 1000) (h0 : 0 ≤ c) (h3 : c < 3) (hd : d = 1) : LabOk m c d := by
  subst hd
  refine ⟨h0, by omega, fun k hk => ?_⟩
  rw [Int.mul_one]
  omega
theorem labs_wide {m : Nat} {c e u : Int} (hu : (if ((m : Nat) : Int) > 1 then ((m : Nat) : Int) else 1) = u) (u0 : 0 < u) (c0 : 0 ≤ c) (c1 : c < 100000000) (e0 : 0 ≤ e) (e1 : e < 9 * 100000000 / u) : LabOk m c (1 + e) := by
  refine ⟨c0, by omega, fun k hk => ?_⟩
  have hm : (m : Int) ≤ u := by
    rw [← hu]
    split <;> omega
  have h1 : (1 + e) * u ≤ 9 * 100000000 := Int.mul_le_of_le_ediv u0 (by omega)
  have h2 : (k : Int) * (1 + e) ≤ u * (1 + e) := Int.mul_le_mul_of_nonneg_right (by omega) (by omega)
  rw [Int.mul_comm u] at h2
  omega
theorem But.free {h l : Addr} {H H' : Hp} (B : But h H H') (n : l ≠ h) (e : H' l = none) : H l = none := by
  cases q : H l with
  | none => rfl
  | some o =>
    have := B _ _ n q
    rw [e] at this
    cases this
section
variable {P : Program} {w : World} {K : PySem.W.Frag} {mg : Str → Option Value} {base : Heap}
theorem ok_Llabels {f fD : Addr} {fd fdD : FuncData} (F : Fun K "_law_labels" "_law_labels" s_Llabels f fd) (nr : mg "range" = none) (nm : mg "max" = none) (GD : Cal P w K mg base CX0 2 "_law_draw" fD fdD ["_law_hand_here", "_law_many"] spDraw) : FnOk P w K mg base CX0 3 f fd ["_law_hand_here", "_law_many"] spLabels := by
  refine F.ok sc_Llabels (fun vs H Q E h => ?_) (fun cdv A outer s H vs Q E hr h => ?_)
  · obtain ⟨h, q, m, rfl, _⟩ := h
    rfl
  · obtain ⟨h, q, m, rfl, hm, hh, k⟩ := h
    refine ⟨_, (pss_cons 
  (ps_set (i := 2) sc_Llabels.nd rfl (Or.inr rfl) (pcal GD hr pass0 (pa_cons (pv 0) (pa_cons pe_int pa_nil)))) (pss_cons 
  (ps_set (i := 3) sc_Llabels.nd rfl (Or.inr rfl) pe_int) (C8.pss_cut 
  (ps_if (pt_cmpR op_eq (pcal GD hr pass0 (pa_cons (pv 0) (pa_cons pe_int pa_nil))) pe_int (nomark _)) (pss_cons 
    (ps_set (i := 2) sc_Llabels.nd rfl (Or.inr rfl) (pcal GD hr pass0 (pa_cons (pv 0) (pa_cons (pe_op op_pow pe_int pe_int) pa_nil)))) (pss_one 
    (ps_set (i := 3) sc_Llabels.nd rfl (Or.inr rfl) (pe_op op_add pe_int (pcal GD hr pass0 (pa_cons (pv 0) (pa_cons (pe_op op_fdivW (pe_op op_mul pe_int (pe_op op_pow pe_int pe_int)) (pe_callB (call_max2 rfl) (by rfl) nm (by decide +kernel) (pa_cons pe_int (pa_cons (pv 1) pa_nil)))) pa_nil))))))) pss_nil) (pss_one 
  (ps_ret (pe_lc (own := [("_law_k", 4)]) (g := gName 4) (by rfl) sc_Llabels.nd (pi_range1 (by rfl) nr (pa_cons (pv 1) pa_nil)) (blkOk_by (own := [("_law_k", 4)]) (N := ["_law_hand_here", "_law_many", "_law_base", "_law_step", "_law_k"]) (sc := defScope s_Llabels) (by decide +kernel)) (fun _ _ _ _ _ => pg_name (i := 4) sc_Llabels.nd rfl (Or.inl rfl)) (fun _ _ _ _ _ => pts_nil) (fun _ _ _ _ _ => (pe_op op_add (pv 2) (pe_op op_mul (pv 4) (pv 3)))))))))), ?_⟩
    refine ⟨_, rfl, h, q, 3, rfl, by decide, by decide, hh, fun b H1 b0 b1 B1 h1 => ⟨fun σ' H' => ∃ c d : Int, σ' = [some (.ref h), some (.int (m : Nat)), some (.int c), some (.int d), none] ∧ LabOk m c d ∧ But h H H' ∧ Hand H' h q, ?_, ?_⟩⟩
    · refine ⟨_, rfl, h, q, 2, rfl, by decide, by decide, h1, fun z H2 z0 z1 B2 h2 => ⟨rfl, _, rfl, ?_⟩⟩
      refine ifD (fun c => ?_) (fun c => ⟨_, _, rfl, labs_small hm b0 b1 rfl, B1.trans B2, h2⟩)
      refine ⟨_, rfl, _, _, rfl, rfl, ⟨by decide, by decide, by decide⟩, h, q, _, rfl, by decide +kernel, by decide +kernel, h2, fun c2 H3 c0 c1 B3 h3 => ?_⟩
      have e9 : (10 : Int) ^ (8 : Int).toNat = 100000000 := by decide +kernel
      have mx : ∃ u : Int, (if ((m : Nat) : Int) > 1 then ((m : Nat) : Int) else 1) = u ∧ 0 < u ∧ u ≤ 1000 := by
        refine ⟨_, rfl, ?_⟩
        split <;> omega
      obtain ⟨u, eu, u0, u1⟩ := mx
      refine ⟨_, rfl, _, _, rfl, rfl, ⟨by decide, by decide, by decide⟩, _, _, rfl, rfl, .inl ⟨by decide, by decide⟩, _, rfl, _, _, rfl, ?_⟩
      rw [eu, e9]
      refine ⟨_, _, rfl, rfl, wide_div (b := 62) u0 (by omega) (by decide) (by decide), h, q, _, rfl, ?_, ?_, h3, fun c3 H4 y0 y1 B4 h4 => ⟨_, _, rfl, rfl, _, _, rfl, labs_wide eu u0 c0 (by rw [e9] at c1; exact c1) y0 y1, ((B1.trans B2).trans B3).trans B4, h4⟩⟩
      · have := Int.le_ediv_of_mul_le (a := 1) (b := 9 * 100000000) u0 (by omega)
        show (0 : Int) < 9 * 100000000 / u
        omega
      · have := Int.ediv_le_self (a := 9 * 100000000) u (by decide)
        show (9 * 100000000 / u : Int) < 2 ^ 62
        omega
    · rintro σ' H' ⟨c, d, rfl, LO, B, hh'⟩
      refine ⟨_, rfl, (m : Nat), rfl, by omega, by omega, fun D hD => ?_⟩
      have nD := (hh'.h_ne hD).1
      refine lc_range (lo := 0) (n := m) (fun i H5 => H5 D = some (.lst ((labsOf i c d).map V.int)) ∧ Same H' H5 ∧ H' D = none) ⟨upd_same, new_same hD, hD⟩ ?_ ?_
      · rintro i H5 hi ⟨eD, S5, D0⟩
        refine ⟨rfl, yesT ?_⟩
        refine ⟨_, rfl, _, rfl, _, rfl, _, _, rfl, rfl, .inl ⟨by omega, by omega⟩, _, _, rfl, rfl, _, eD, ?_, by rw [upd_same]; unfold labsOf; rw [List.range_succ, List.map_append, List.map_append]; rfl, fun b o e => ?_, D0⟩
        · rw [List.length_map]
          unfold labsOf
          rw [List.length_map, List.length_range]
          exact small1000 (by omega)
        · rw [upd_ne (ne_of_none e D0)]
          exact S5 _ _ e
      · rintro H5 ⟨eD, S5, D0⟩
        exact k H5 D (labsOf m c d) (by unfold labsOf; rw [List.length_map, List.length_range]) (labs_asc LO) (labs_in LO) (B.trans (But.same S5)) (hh'.keep S5) (B.free nD.symm D0) eD
end
end J

set_option Elab.async false
set_option linter.all false
set_option maxRecDepth 100000
set_option maxHeartbeats 4000000
namespace J
open PySem PySem.Spec PyProof.Rows L2
/-! ### rows that are drawn, as lists -/
/-- at l a list of lists of ints -/
def LinesAt (H : Hp) (l : Addr) (ps : List Addr) (tss : List (List Int)) : Prop := H l = some (.lst (ps.map V.ref)) ∧ ps.length = tss.length ∧ ∀ (j : Nat) (a : Addr) (ts : List Int), ps[j]? = some a → tss[j]? = some ts → a ≠ l ∧ H a = some (.lst (ts.map V.int))
theorem LinesAt.keep {H H' : Hp} {l : Addr} {ps : List Addr} {tss : List (List Int)} (h : LinesAt H l ps tss) (S : Same H H') : LinesAt H' l ps tss :=
  ⟨S _ _ h.1, h.2.1, fun j a ts e1 e2 => ⟨(h.2.2 j a ts e1 e2).1, S _ _ (h.2.2 j a ts e1 e2).2⟩⟩
/-- rows of ties: each as long as its place -/
def Rows (m : Nat) (tss : List (List Int)) : Prop := ∀ (j : Nat) (ts : List Int), tss[j]? = some ts → ts.length = j ∧ ∀ t ∈ ts, 0 ≤ t ∧ t < (m : Nat)
theorem Hand.same_h' {H : Hp} {h q z : Addr} (x : Hand H h q) (hz : H z = none) : z ≠ h ∧ z ≠ q := ⟨fun e => (x.h_ne hz).1 e.symm, fun e => (x.h_ne hz).2 e.symm⟩
abbrev s_Lany : Stmt := top 30
theorem sc_Lany : FnScope ["_law_hand_here", "_law_backs_here", "_law_many", "_law_j", "_law_i"] ["_law_hand_here", "_law_backs_here", "_law_many"] (defScope s_Lany) := ⟨rfl, rfl, rfl, by decide +kernel, rfl, by decide +kernel, by decide +kernel⟩
def spAny : Sp := fun vs H Q _ => ∃ (h q b : Addr) (bs : List Int) (m : Nat), vs = [.ref h, .ref b, .int (m : Nat)] ∧ m ≤ 61 ∧ H b = some (.lst (bs.map V.int)) ∧ b ≠ h ∧ 0 < bs.length ∧ bs.length ≤ 4 ∧ Hand H h q ∧
  ∀ (H' : Hp) (l : Addr) (ps : List Addr) (tss : List (List Int)), tss.length = m → Rows bs.length tss → But h H H' → Hand H' h q → H l = none → (∀ a ∈ ps, H a = none ∧ a ≠ h) → ps.Nodup → LinesAt H' l ps tss → Q (.ref l) H'
section
variable {P : Program} {w : World} {K : PySem.W.Frag} {mg : Str → Option Value} {base : Heap}
theorem ok_Lany {f fD : Addr} {fd fdD : FuncData} (F : Fun K "_law_any_rows" "_law_any_rows" s_Lany f fd) (nl : mg "len" = none) (nr : mg "range" = none)
    (GD : Cal P w K mg base CX0 2 "_law_draw" fD fdD ["_law_hand_here", "_law_many"] spDraw) : FnOk P w K mg base CX0 3 f fd ["_law_hand_here", "_law_backs_here", "_law_many"] spAny := by
  refine F.ok sc_Lany (fun vs H Q E h => ?_) (fun cdv A outer s H vs Q E hr h => ?_)
  · obtain ⟨h, q, b, bs, m, rfl, _⟩ := h
    rfl
  · obtain ⟨h, q, b, bs, m, rfl, m61, eb, nbh, g1, g4, hh, k⟩ := h
    refine ⟨_, (pss_one (ps_ret 
      (pe_lc (own := [("_law_j", 3)]) (g := gName 3) (by rfl) sc_Lany.nd (pi_range1 (by rfl) nr (pa_cons (pv 2) pa_nil)) (blkOk_by (own := [("_law_j", 3)]) (N := ["_law_hand_here", "_law_backs_here", "_law_many", "_law_j", "_law_i"]) (sc := defScope s_Lany) (by decide +kernel))
        (fun _ _ _ _ _ => pg_name (i := 3) sc_Lany.nd rfl (Or.inl rfl)) (fun _ _ _ _ _ => pts_nil) (fun _ _ _ _ _ => 
          (pe_lc (own := [("_law_i", 4)]) (g := gName 4) (by rfl) sc_Lany.nd (pi_range1 (by rfl) nr (pa_cons (pv 3) pa_nil)) (blkOk_by (own := [("_law_i", 4)]) (N := ["_law_hand_here", "_law_backs_here", "_law_many", "_law_j", "_law_i"]) (by rfl))
            (fun _ _ _ _ _ => pg_name (i := 4) sc_Lany.nd rfl (Or.inl rfl)) (fun _ _ _ _ _ => pts_nil) (fun _ _ _ _ _ => (pcal GD hr pass0 (pa_cons (pv 0) (pa_cons (pe_callB (id := "len") (r := rLen K) call_len_seq (by rfl) nl PySem.boot_len (pa_cons (pv 1) pa_nil)) pa_nil))))))))), ?_⟩
    have bl : (bs.map V.int).length = bs.length := List.length_map _
    refine ⟨_, rfl, (m : Nat), rfl, by omega, by omega, fun D hD => ?_⟩
    obtain ⟨nDh, nDq⟩ := hh.same_h' hD
    have nDb : D ≠ b := (ne_of_none eb hD).symm
    refine lc_range (lo := 0) (n := m) (fun j H7 => ∃ (ps : List Addr) (tss : List (List Int)), tss.length = j ∧ Rows bs.length tss ∧ Hand H7 h q ∧ But h H H7 ∧ (∀ a ∈ ps, H a = none ∧ a ≠ h) ∧ ps.Nodup ∧ LinesAt H7 D ps tss)
      ⟨[], [], rfl, (fun j ts e => by simp at e), hh.new hD, But.new hD, (fun a ha => by simp at ha), .nil, upd_same, rfl, (fun j a ts e => by simp at e)⟩ ?_ ?_
    · rintro j H7 hj ⟨ps, tss, tl, rw_, h7, B7, fr, nd, eD, pl, hl⟩
      refine ⟨rfl, yesT ?_⟩
      have eb7 := B7 _ _ nbh eb
      refine ⟨_, rfl, ((j : Nat) : Int), by rw [Int.zero_add], by omega, by omega, fun D2 hD2 => ?_⟩
      obtain ⟨n2h, n2q⟩ := h7.same_h' hD2
      have n2b : D2 ≠ b := (ne_of_none eb7 hD2).symm
      have n2D : D2 ≠ D := (ne_of_none eD hD2).symm
      have f2 : H D2 = none := B7.free n2h hD2
      have n2p : D2 ∉ ps := fun z => by
        obtain ⟨i, hi⟩ := List.getElem?_of_mem z
        have il := (List.getElem?_eq_some_iff.mp hi).1
        obtain ⟨_, e⟩ := hl i D2 _ hi (List.getElem?_eq_getElem (by omega))
        rw [hD2] at e
        cases e
      refine lc_range (lo := 0) (n := j) (fun n H8 => ∃ zs : List Int, zs.length = n ∧ (∀ t ∈ zs, 0 ≤ t ∧ t < (bs.length : Nat)) ∧ H8 D2 = some (.lst (zs.map V.int)) ∧ Hand H8 h q ∧ (∀ b o, b ≠ h → b ≠ D2 → H7 b = some o → H8 b = some o))
        ⟨[], rfl, (fun t ht => by simp at ht), upd_same, h7.new hD2, fun b o _ n2 e => by rw [upd_ne n2]; exact e⟩ ?_ ?_
      · rintro n H8 hn ⟨zs, zl, zr, eD2, h8, B8⟩
        refine ⟨rfl, yesT ?_⟩
        have eb8 := B8 _ _ nbh n2b.symm eb7
        refine ⟨_, rfl, _, rfl, b, _, rfl, .inl (SqL.of eb8), h, q, _, rfl, by omega, by omega, h8, fun z H9 z0 z1 b9 h9 => ?_⟩
        have eD29 := b9 _ _ n2h eD2
        refine ⟨_, eD29, by rw [List.length_map]; exact small1000 (by omega), zs ++ [z], by rw [List.length_append, zl]; rfl, fun t ht => ?_, by rw [upd_same, List.map_append]; rfl, h9.put n2h.symm n2q.symm, fun c o n1 n2 e => by rw [upd_ne n2]; exact b9 _ _ n1 (B8 c o n1 n2 e)⟩
        rcases List.mem_append.mp ht with ht | ht
        · exact zr t ht
        · rw [List.mem_singleton] at ht
          subst ht
          exact ⟨z0, by omega⟩
      · rintro H8 ⟨zs, zl, zr, eD2, h8, B8⟩
        have eD8 := B8 _ _ nDh n2D.symm eD
        refine ⟨ps.map V.ref, eD8, by rw [List.length_map]; exact small1000 (by omega), ps ++ [D2], tss ++ [zs], by rw [List.length_append, tl]; rfl, fun i ts e => ?_, h8.put nDh.symm nDq.symm, fun c o nc e => ?_, fun a ha => ?_, ?_, by rw [upd_same, List.map_append]; rfl, by rw [List.length_append, List.length_append, pl]; rfl, fun i a ts e1 e2 => ?_⟩
        · rcases Nat.lt_or_ge i tss.length with q | q
          · rw [List.getElem?_append_left q] at e
            exact rw_ i ts e
          · have hi : i = j := by
              have := (List.getElem?_eq_some_iff.mp e).1
              rw [List.length_append] at this
              have l : [zs].length = 1 := rfl
              omega
            subst hi
            rw [← tl, List.getElem?_append_right (Nat.le_refl _), Nat.sub_self] at e
            obtain rfl : zs = ts := Option.some.inj e
            exact ⟨zl, zr⟩
        · rw [upd_ne (ne_of_none e hD)]
          exact B8 c o nc (ne_of_none e f2) (B7 c o nc e)
        · rcases List.mem_append.mp ha with q | q
          · exact fr a q
          · rw [List.mem_singleton] at q
            subst q
            exact ⟨f2, n2h⟩
        · rw [List.nodup_append]
          exact ⟨nd, by simp, fun a ha b hb => by rw [List.mem_singleton] at hb; subst hb; exact fun q => n2p (q ▸ ha)⟩
        · rcases Nat.lt_or_ge i ps.length with q | q
          · rw [List.getElem?_append_left q] at e1
            rw [List.getElem?_append_left (by omega)] at e2
            obtain ⟨n1, e3⟩ := hl i a ts e1 e2
            have mem := List.mem_of_getElem? e1
            exact ⟨n1, by rw [upd_ne n1]; exact B8 a _ (fr a mem).2 (fun z => n2p (z ▸ mem)) e3⟩
          · have hi : i = ps.length := by
              have := (List.getElem?_eq_some_iff.mp e1).1
              rw [List.length_append] at this
              have l : [D2].length = 1 := rfl
              omega
            subst hi
            rw [List.getElem?_append_right (Nat.le_refl _), Nat.sub_self] at e1
            rw [pl, List.getElem?_append_right (Nat.le_refl _), Nat.sub_self] at e2
            obtain rfl : D2 = a := Option.some.inj e1
            obtain rfl : zs = ts := Option.some.inj e2
            exact ⟨n2D, by rw [upd_ne n2D]; exact eD2⟩
    · rintro H7 ⟨ps, tss, tl, rw_, h7, B7, fr, nd, L⟩
      exact k H7 D ps tss tl rw_ B7 h7 hD fr nd L
end
end J

set_option Elab.async false
set_option linter.all false
set_option maxRecDepth 100000
set_option maxHeartbeats 4000000
namespace J
open PySem PySem.Spec PyProof.Rows L2
/-! ### the law's own table -/
def lcell (bs : List Int) (tss : List (List Int)) (a b : Nat) : Int :=
  if a < b then bs[((tss[b]?.getD [])[a]?.getD 0).toNat]?.getD 0 else if b < a then (tss[a]?.getD [])[b]?.getD 0 else -1
theorem cell_int {bs : List Int} {tss : List (List Int)} (R : Rows bs.length tss) {a b : Nat} (ha : a < tss.length) (hb : b < tss.length) (n : a ≠ b) : cell bs tss a b = .int (lcell bs tss a b) := by
  unfold cell lcell
  rcases Nat.lt_or_gt_of_ne n with c | c
  · rw [if_neg (by omega), if_pos c, if_pos c]
    have e := List.getElem?_eq_getElem hb
    obtain ⟨l, _⟩ := R b _ e
    rw [e]
    show (match (tss[b])[a]? with | some t => V.int (bs[t.toNat]?.getD 0) | none => V.non) = V.int (bs[((tss[b])[a]?.getD 0).toNat]?.getD 0)
    rw [List.getElem?_eq_getElem (by omega)]
    rfl
  · rw [if_pos c, if_neg (by omega), if_pos c]
    have e := List.getElem?_eq_getElem ha
    obtain ⟨l, _⟩ := R a _ e
    rw [e]
    show (match (tss[a])[b]? with | some t => V.int t | none => V.non) = V.int ((tss[a])[b]?.getD 0)
    rw [List.getElem?_eq_getElem (by omega)]
    rfl
def LTab (H : Hp) (z : Addr) (us : List Addr) (bs : List Int) (tss : List (List Int)) : Prop := H z = some (.lst (us.map V.ref)) ∧ us.length = tss.length ∧ ∀ (a : Nat) (u : Addr), us[a]? = some u → u ≠ z ∧ H u = some (.lst ((List.range tss.length).map fun b => V.int (lcell bs tss a b)))
theorem LTab.keep {H H' : Hp} {z : Addr} {us : List Addr} {bs : List Int} {tss : List (List Int)} (h : LTab H z us bs tss) (S : Same H H') : LTab H' z us bs tss := ⟨S _ _ h.1, h.2.1, fun a u e => ⟨(h.2.2 a u e).1, S _ _ (h.2.2 a u e).2⟩⟩
abbrev s_Ltab : Stmt := top 31
theorem sc_Ltab : FnScope ["_law_backs_here", "_law_rows", "_law_table", "_law_j", "_law_i"] ["_law_backs_here", "_law_rows"] (defScope s_Ltab) := ⟨rfl, rfl, rfl, by decide +kernel, rfl, by decide +kernel, by decide +kernel⟩
def spLTab : Sp := fun vs H Q _ => ∃ (b l : Addr) (bs : List Int) (ps : List Addr) (tss : List (List Int)), vs = [.ref b, .ref l] ∧ H b = some (.lst (bs.map V.int)) ∧ LinesAt H l ps tss ∧ Rows bs.length tss ∧ tss.length ≤ 61 ∧ ∀ (H' : Hp) (z : Addr) (us : List Addr), Same H H' → H z = none → LTab H' z us bs tss → Q (.ref z) H'
section
variable {P : Program} {w : World} {K : PySem.W.Frag} {mg : Str → Option Value} {base : Heap}
theorem ok_Ltab {f : Addr} {fd : FuncData} (F : Fun K "_law_table_of" "_law_table_of" s_Ltab f fd) (nl : mg "len" = none) (nr : mg "range" = none) : FnOk P w K mg base CX0 1 f fd ["_law_backs_here", "_law_rows"] spLTab := by
  refine F.ok sc_Ltab (fun vs H Q E h => ?_) (fun cdv A outer s H vs Q E hr h => ?_)
  · obtain ⟨b, l, bs, ps, tss, rfl, _⟩ := h
    rfl
  · obtain ⟨b, l, bs, ps, tss, rfl, eb, L, R, t61, k⟩ := h
    refine ⟨_, (pss_cons 
  (ps_set (i := 2) sc_Ltab.nd rfl (Or.inl rfl) (pe_lst pa_nil)) (pss_cons 
  (ps_for PassesOwn.never rfl (pi_range1 (by rfl) nr (pa_cons (pe_callB call_len_seq (by rfl) nl PySem.boot_len (pa_cons (pv 1) pa_nil)) pa_nil)) (pg_name (i := 3) sc_Ltab.nd rfl (Or.inr rfl)) (pss_one 
    (ps_expr (pe_bm PySem.F.plainAttrs_list PySem.F.slot_list_append PySem.F.type_list_append mt_append (pv 2) (pa_cons (pe_lc (own := [("_law_i", 4)]) (g := gName 4) (by rfl) sc_Ltab.nd (pi_range1 (by rfl) nr (pa_cons (pe_callB call_len_seq (by rfl) nl PySem.boot_len (pa_cons (pv 1) pa_nil)) pa_nil)) (blkOk_by (own := [("_law_i", 4)]) (N := ["_law_backs_here", "_law_rows", "_law_table", "_law_j", "_law_i"]) (sc := defScope s_Ltab) (by decide +kernel)) (fun _ _ _ _ _ => pg_name (i := 4) sc_Ltab.nd rfl (Or.inl rfl)) (fun _ _ _ _ _ => pts_nil) (fun _ _ _ _ _ => (pe_ifExp (pt_cmpR op_gt (pv 4) (pv 3) (nomark _)) (pe_ix (r := rIxL K) ix_list (pv 0) (pe_ix (r := rIxL K) ix_list (pe_ix (r := rIxL K) ix_list (pv 1) (pv 4) (fun _ _ => rfl)) (pv 3) (fun _ _ => rfl)) (fun _ _ => rfl)) (pe_ifExp (pt_cmpR op_lt (pv 4) (pv 3) (nomark _)) (pe_ix (r := rIxL K) ix_list (pe_ix (r := rIxL K) ix_list (pv 1) (pv 3) (fun _ _ => rfl)) (pv 4) (fun _ _ => rfl)) (pe_un un_neg pe_int))))) pa_nil))))) (pss_one 
  (ps_ret (pv 2))))), ?_⟩
    have pl := L.2.1
    have ml : (ps.map V.ref).length = ps.length := List.length_map _
    refine ⟨(by show 0 ≤ sizeLine; decide), fun z hz => ?_⟩
    have S0 : Same H (upd H z (.lst [])) := new_same hz
    refine ⟨_, rfl, l, _, rfl, .inl (SqL.of (S0 _ _ L.1)), _, rfl, by omega, by omega, for_range (lo := 0) (n := (ps.map V.ref).length) (fun j σ H1 => ∃ (v3 : Option V) (us : List Addr), σ = [some (.ref b), some (.ref l), some (.ref z), v3, none] ∧ Same H H1 ∧ us.length = j ∧ H1 z = some (.lst (us.map V.ref)) ∧ ∀ (a : Nat) (u : Addr), us[a]? = some u → u ≠ z ∧ H1 u = some (.lst ((List.range tss.length).map fun b => V.int (lcell bs tss a b))))
      ⟨none, [], rfl, S0, rfl, upd_same, fun a u e => by simp at e⟩ ?_ ?_⟩
    · rintro j σ H1 hj ⟨v3, us, rfl, S1, ul, ez, hu⟩
      have e0 : (0 + ((j : Nat) : Int)) = ((j : Nat) : Int) := by omega
      rw [e0]
      have hjt : j < tss.length := by omega
      refine ⟨_, rfl, .inl ⟨rfl, _, SqL.of ez⟩, _, rfl, l, _, rfl, .inl (SqL.of (S1 _ _ L.1)), _, rfl, by omega, by omega, fun D hD => ?_⟩
      have nDz : D ≠ z := (ne_of_none ez hD).symm
      refine lc_range (lo := 0) (n := (ps.map V.ref).length) (fun i H2 => Same H1 H2 ∧ H1 D = none ∧ H2 D = some (.lst ((List.range i).map fun b => V.int (lcell bs tss j b)))) ⟨new_same hD, hD, upd_same⟩ ?_ ?_
      · rintro i H2 hi ⟨S2, D0, eD⟩
        have hit : i < tss.length := by omega
        have S12 := S1.trans S2
        have e1 : (0 + ((i : Nat) : Int)) = ((i : Nat) : Int) := by omega
        rw [e1]
        have put : ∃ acc : List V, H2 D = some (.lst acc) ∧ acc.length < sizeLine ∧ Same H1 (upd H2 D (.lst (acc ++ [V.int (lcell bs tss j i)]))) ∧ H1 D = none ∧ (upd H2 D (.lst (acc ++ [V.int (lcell bs tss j i)]))) D = some (.lst ((List.range (i + 1)).map fun b => V.int (lcell bs tss j b))) := by
          refine ⟨_, eD, by rw [List.length_map, List.length_range]; exact small1000 (by omega), fun c o ec => ?_, D0, by rw [upd_same, List.range_succ, List.map_append]; rfl⟩
          rw [upd_ne (ne_of_none ec D0)]
          exact S2 _ _ ec
        refine ⟨rfl, yesT ?_⟩
        refine ⟨_, rfl, _, rfl, _, _, rfl, rfl, _, rfl, ?_⟩
        have pi := List.getElem?_eq_getElem (l := ps) (i := i) (by omega)
        have ti := List.getElem?_eq_getElem hit
        obtain ⟨_, ei⟩ := L.2.2 i _ _ pi ti
        obtain ⟨li, ri⟩ := R i _ ti
        have pj := List.getElem?_eq_getElem (l := ps) (i := j) (by omega)
        have tj := List.getElem?_eq_getElem hjt
        obtain ⟨_, ej⟩ := L.2.2 j _ _ pj tj
        obtain ⟨lj, rj⟩ := R j _ tj
        refine ifD (fun c => ?_) (fun c => ?_)
        · have c' : j < i := by omega
          have hij := List.getElem?_eq_getElem (l := tss[i]) (i := j) (by omega)
          obtain ⟨r0, r1⟩ := ri _ (List.mem_of_getElem? hij)
          have hb := List.getElem?_eq_getElem (l := bs) (i := (tss[i][j]'(by omega)).toNat) (by omega)
          have val : lcell bs tss j i = bs[(tss[i][j]'(by omega)).toNat]'(by omega) := by
            unfold lcell
            rw [if_pos c', ti]
            show bs[((tss[i])[j]?.getD 0).toNat]?.getD 0 = _
            rw [hij]
            show bs[(tss[i][j]'(by omega)).toNat]?.getD 0 = _
            rw [hb]
            rfl
          rw [val] at put
          exact ⟨_, rfl, _, rfl, _, rfl, _, _, _, _, rfl, rfl, SqL.of (S12 _ _ L.1), at_of (j := i) (v := .ref (ps[i]'(by omega))) rfl (by rw [List.getElem?_map, pi]; rfl), _, rfl, _, _, _, _, rfl, rfl, SqL.of (S12 _ _ ei), at_of (j := j) rfl (ints_at hij), _, _, _, _, rfl, rfl, SqL.of (S12 _ _ eb), at_of (j := (tss[i][j]'(by omega)).toNat) (by omega) (ints_at hb), put⟩
        · refine ⟨_, rfl, _, rfl, _, _, rfl, rfl, _, rfl, ?_⟩
          refine ifD (fun c2 => ?_) (fun c2 => ?_)
          · have c' : i < j := by omega
            have hji := List.getElem?_eq_getElem (l := tss[j]) (i := i) (by omega)
            have val : lcell bs tss j i = tss[j][i]'(by omega) := by
              unfold lcell
              rw [if_neg (by omega), if_pos c', tj]
              show (tss[j])[i]?.getD 0 = _
              rw [hji]
              rfl
            rw [val] at put
            exact ⟨_, rfl, _, rfl, _, _, _, _, rfl, rfl, SqL.of (S12 _ _ L.1), at_of (j := j) (v := .ref (ps[j]'(by omega))) rfl (by rw [List.getElem?_map, pj]; rfl), _, rfl, _, _, _, _, rfl, rfl, SqL.of (S12 _ _ ej), at_of (j := i) rfl (ints_at hji), put⟩
          · have ij : i = j := by omega
            have val : lcell bs tss j i = -1 := by
              unfold lcell
              rw [if_neg (by omega), if_neg (by omega)]
            rw [val] at put
            exact ⟨_, rfl, put⟩
      · rintro H2 ⟨S2, D0, eD⟩
        rw [ml, pl] at eD
        have ez2 := S2 _ _ ez
        refine ⟨z, _, .ref D, rfl, rfl, ez2, by rw [List.length_map]; exact small1000 (by omega), _, us ++ [D], rfl, fun c o ec => ?_, by rw [List.length_append, ul]; rfl, by rw [upd_same, List.map_append]; rfl, fun a u e => ?_⟩
        · rw [upd_ne (ne_of_none ec hz)]
          exact S2 _ _ (S1 _ _ ec)
        · rcases Nat.lt_or_ge a us.length with q | q
          · rw [List.getElem?_append_left q] at e
            obtain ⟨n1, e2⟩ := hu a u e
            exact ⟨n1, by rw [upd_ne n1]; exact S2 _ _ e2⟩
          · have ha : a = j := by
              have := (List.getElem?_eq_some_iff.mp e).1
              rw [List.length_append] at this
              have l : [D].length = 1 := rfl
              omega
            subst ha
            rw [← ul, List.getElem?_append_right (Nat.le_refl _), Nat.sub_self] at e
            obtain rfl : D = u := Option.some.inj e
            rw [ul] at *
            exact ⟨nDz, by rw [upd_ne nDz]; exact eD⟩
    · rintro σ H1 ⟨v3, us, rfl, S1, ul, ez, hu⟩
      exact ⟨_, rfl, k H1 z us S1 hz ⟨ez, by omega, hu⟩⟩
end
end J

set_option Elab.async false
set_option linter.all false
set_option maxRecDepth 100000
set_option maxHeartbeats 4000000
namespace J
open PySem PySem.Spec PyProof.Rows L2
abbrev s_Lrr : Stmt := top 33
theorem sc_Lrr : FnScope ["_law_company", "_law_label", "_law_row", "e"] ["_law_company", "_law_label"] (defScope s_Lrr) := ⟨rfl, rfl, rfl, by decide +kernel, rfl, by decide +kernel, by decide +kernel⟩
def spRR (C CC : Addr) : Sp := fun vs H Q _ => ∃ (x : Addr) (ns is : List Int) (tss : List (List Int)) (v : V), vs = [.ref x, v] ∧ CompAt C CC H x ns is tss ∧ isSc v = true ∧ seat is v = none ∧ ∀ H', Same H H' → Q (.bl true) H'
section
variable {P : Program} {w : World} {K : PySem.W.Frag} {mg : Str → Option Value} {base : Heap}
theorem ok_Lrr {f C CC CN fR fI : Addr} {fd fdR fdI : FuncData} (F : Fun K "_law_row_refused" "_law_row_refused" s_Lrr f fd) (c : CoC K CC) (nis : mg "isinstance" = none) (nb : mg "bool" = none)
    (GR : Mt P w K mg base (L2.CX P w) 5 CC "row_of" fR fdR ["self", "label"] (spCRow C CC CN)) (GN : Ex P w K mg base "NoGuest" "label" CN fI fdI ["self", "label"]) : FnOk P w K mg base CX0 6 f fd ["_law_company", "_law_label"] (spRR C CC) := by
  refine F.ok sc_Lrr (fun vs H Q E h => ?_) (fun cdv A outer s H vs Q E hr h => ?_)
  · obtain ⟨x, ns, is, tss, v, rfl, _⟩ := h
    rfl
  · obtain ⟨x, ns, is, tss, v, rfl, hC, sv, st, k⟩ := h
    obtain ⟨dx, t, g, r, b, p, ps, kvs, a1, _⟩ := id hC
    refine ⟨_, (pss_cons 
  (ps_try_as (i := 3) (Wout := fun _ _ _ _ => False) rfl rfl sc_Lrr.nd rfl rfl ⟨rfl, by decide, Or.inl GN.m⟩ takes0 (fun W pn xe tk _ => (pss_one 
    (ps_set (i := 2) sc_Lrr.nd rfl (Or.inl rfl) (by exact (pmetS (pv 0) c.cl GR.M GR.F hr GR.b (fun σ => passAt tk σ) (by exact (pa_cons (pv 1) pa_nil))))))) (fun a oe cls d pn hz hf => (pss_one 
    (ps_ret (pe_and (pe_cmpR op_eq (pe_xf GN.xf GN.no hz hf (pv 3)) (pv 1) (nomark _)) (pe_one (pe_cmpR op_eq (pe_callB (id := "isinstance") (r := rIsi K) call_isi (by rfl) nis (by decide +kernel) (pa_cons (pe_xf GN.xf GN.no hz hf (pv 3)) (pa_cons (pe_bltn (by rfl) nb (by decide +kernel) (v := .ty "bool") rfl) pa_nil))) (pe_callB (id := "isinstance") (r := rIsi K) call_isi (by rfl) nis (by decide +kernel) (pa_cons (pv 1) (pa_cons (pe_bltn (by rfl) nb (by decide +kernel) (v := .ty "bool") rfl) pa_nil))) (nomark _)))))))) (pss_one 
  (ps_ret (pe_cmpR op_isN (pv 2) pe_non (nomark _))))), ?_⟩
    have is0 : Is H v (.sc v) := ⟨rfl, sv⟩
    refine ⟨_, rfl, x, dx, _, rfl, a1, cf_no _ _ _ _ _ (by decide +kernel) (by decide +kernel) (by decide +kernel) (by decide +kernel) (by decide +kernel), _, rfl, x, ns, is, tss, v, .sc v, rfl, hC, is0, fun _ d H' nd S e => ?_, fun j ej => by rw [st] at ej; cases ej⟩
    refine ⟨true, GN.te, fun _ a ha => ?_, fun q => nomatch q⟩
    obtain ⟨t1, ht1, _, kb, _⟩ := (is0.keep S).ty (K := K)
    refine ⟨_, rfl, rfl, rfl, d, _, v, rfl, e, by simp [List.lookup], _, rfl, ?_⟩
    refine ⟨(by cases v <;> first | rfl | cases sv), _, rfl, if_tr (decide_eq_true rfl) ?_⟩
    refine ⟨_, rfl, rfl, rfl, d, _, v, rfl, e, by simp [List.lookup], _, _, _, _, _, rfl, .ty "bool", ht1, kit_ty kb, _, rfl, _, _, _, _, _, rfl, .ty "bool", ht1, kit_ty kb, rfl, ?_⟩
    rw [decide_eq_true rfl]
    exact k _ S
end
end J

set_option Elab.async false
set_option linter.all false
set_option maxRecDepth 100000
set_option maxHeartbeats 2000000
/-! try with several clauses of the form except X as n -/
namespace L2
open PySem PySem.Spec PyProof.Rows
def wManyAs (K : PySem.W.Frag) (Wout : WX) (D : Ends) : List (Value × Nat × (Addr → Value → Option Addr → TS)) → WX
  | [] => Wout
  | (c, i, ts) :: r => wAs K c i ts (wManyAs K Wout D r) D
inductive HdsAs (X : Cx) : List ExceptHandler → List (Value × Nat × (Addr → Value → Option Addr → TS)) → Prop
  | nil : HdsAs X [] []
  | cons {x n : Str} {i : Nat} {c : Value} {ts : Addr → Value → Option Addr → TS} {b₀ : Stmt} {suite : List Stmt} {np pos' : Pos} {hds : List ExceptHandler} {l : List (Value × Nat × (Addr → Value → Option Addr → TS))} (hi : X.N[i]? = some n) (hln : X.env.kindOf n = some .local) (hc : Names X x c)
      (hsu : ∀ (a : Addr) (oe : Obj) (cls : Value) (d : Option Addr) (pn : List (Addr × Obj)), Zc cls d oe → (∃ vs, oe.data = .fields vs) → PSs (X.suite a ((a, oe) :: pn)) (b₀ :: suite) (ts a cls d)) (r : HdsAs X hds l) :
      HdsAs X (.ExceptHandler (some (.Name x np)) (some n) (b₀ :: suite) pos' :: hds) ((c, i, ts) :: l)
section
variable {X : Cx} {body : List Stmt} {h₀ : ExceptHandler} {hds : List ExceptHandler} {l : List (Value × Nat × (Addr → Value → Option Addr → TS))} {pos : Pos} {tb : WX → TS} {Wout : WX}
theorem ps_try_many_as (hs : X.stack = X.env :: X.outer) (hf : X.env.frame = some X.env.locals) (hN : X.N.Nodup) (tk : Takes X Wout)
    (hb : ∀ (W : WX) (pn : List (Addr × Obj)) (xe : Value → Shared → Prop), Takes (X.tr pn xe) W → PassesOwn (model X.prog X.w) X.A X.env xe → PSs (X.tr pn xe) body (tb W))
    (hh : HdsAs X (h₀ :: hds) l) : PS X (.Try body (h₀ :: hds) [] [] pos) (fun D σ H => tb (wManyAs X.K Wout D l) D σ H) := by
  refine ⟨fun pins s σ H D I h => ?_⟩
  have ok := I.ok
  have hfr : X.A.frames = some (X.env :: X.outer) := by rw [ok.frames, hs]
  refine wpAny_Try_except ?_
  refine wpAny_mono ((hb (wManyAs X.K Wout D l) (X.pn ++ pins) (fun e s₁ => wpAny (model X.prog X.w) X.A (noteFrame e X.env) (fun _ s₂ => wpAny (model X.prog X.w) X.A (setFlight e none) (fun _ s₃ =>
    wpAny (model X.prog X.w) X.A (handleBy e X.env (h₀ :: hds)) (SP X pins D) X.xe s₃) X.xe s₂) X.xe s₁) (fun u s' xx => ?_) PassesOwn.looking).run [] s σ H D (I.toTry _) h) (fun f s1 hsp => ?_) (fun e s1 he => he)
  · obtain ⟨a, B, sI, pins', σ', H', cls, d, rfl, J', nb, up, sky, na, os, ag, w⟩ := xx
    have J : Inv X pins σ' H' sI := J'.ofTry ok
    have sky' : Sky B (X.env :: X.outer) a (Zc cls d) X.env.locals s'.heap := by rw [← hs]; exact sky
    show wpAny (model X.prog X.w) X.A (noteFrame (.ref a) X.env) _ _ _
    refine Sky.land Zc.steady hfr hf sky' fun h3 fl3 up3 => ?_
    have J3 : Inv X pins σ' H' { s' with heap := h3 } := J.landed nb fl3.1 (up.trans up3) os ag
    obtain ⟨oe3, vs3, he3, hz3, hd3⟩ := fl3.there
    have nfr : a ∉ frs (X.env :: X.outer) := fun hm => by
      obtain ⟨_, o', e', hnf⟩ := fl3.2.2.1.mem hm
      rw [he3] at e'
      cases e'
      exact hnf _ hd3
    have nL : a ≠ X.env.locals := fun z => nfr (List.mem_filterMap.mpr ⟨X.env, List.mem_cons_self, by rw [hf, z]⟩)
    have nF : a ∉ X.fs := fun hm => by
      obtain ⟨e, he, q⟩ := List.mem_filterMap.mp hm
      exact nfr (List.mem_filterMap.mpr ⟨e, List.mem_cons_of_mem _ he, q⟩)
    have S3 := J3.suite he3 hd3 na nL nF
    have go : ∀ {hds' : List ExceptHandler} {l' : List (Value × Nat × (Addr → Value → Option Addr → TS))}, HdsAs X hds' l' → wManyAs X.K Wout D l' cls d σ' H' →
        wpAny (model X.prog X.w) X.A (handleBy (.ref a) X.env hds') (SP X pins D) X.xe { s' with heap := h3 } := by
      intro hds' l' hk
      induction hk with
      | nil =>
        intro w
        refine wpAny_handleBy_nil ?_
        obtain ⟨k1, k2, k3, oe, vs, T, oT, ts', he, hz, hd, h1, hr⟩ := id fl3
        unfold PySem.passOn
        refine wpAny_bind (wpAny_field he hd h1 ?_)
        rw [if_neg (show ¬ ((Value.ref T == Value.none) = true) from by simp)]
        have fin : wpAny (model X.prog X.w) X.A (setFlight (.ref a) X.env.frame) (fun _ s4 => wpAny (model X.prog X.w) X.A (throw (.ref a) : Sem Flow) (SP X pins D) X.xe s4) X.xe { s' with heap := h3 } := by
          rw [hf]
          refine HandSPX.setFlight_upZ fl3 fun h4 hh4 up4 => wpAny_throw (tk _ _ ?_)
          exact ⟨a, B, sI, pins, σ', H', cls, d, rfl, J, nb, (up.trans up3).trans up4, .inr (.inr (by rw [hs]; exact hh4)), na, os, ag, w⟩
        first
          | exact wpAny_bind (wpAny_pure (wpAny_bind fin))
          | exact wpAny_bind fin
      | @cons x n i c ts b₀ suite np pos' hds2 l2 hi hln hc hsu r ih =>
        intro w
        have hloc : Loc X.env.scope n := .inl hln
        obtain ⟨b, hb1, hyes, hno⟩ := w
        refine wpAny_handleBy_cons (codeAny_handlers_test ?_) (by intro q; cases q)
        have LT : PySem.W.Looks (model X.prog X.w) h3 (typeOf (.ref a)) cls := fun A Q E s k q => wpAny_typeOf_ref (k _ _ he3) (by rw [hz3.1]; exact q)
        have LM := PySem.W.exm_one (M := model X.prog X.w) (J3.kIn) LT hb1
        have test : ∀ {Q : Value → Shared → Prop} {E : Value → Shared → Prop}, Q c { s' with heap := h3 } → wpAny (model X.prog X.w) (X.A.mark (some (.ref a))) (eval (.Name x np) X.env) Q E { s' with heap := h3 } := fun {Q E} q => by
          obtain ⟨hg, hdbg, hm | ⟨hm, hv, hnn⟩⟩ := hc
          · exact ld_glob (X := X.suite a ((a, oe3) :: (X.pn ++ pins))) S3 hg hm q hdbg
          · exact ld_blt (X := X.suite a ((a, oe3) :: (X.pn ++ pins))) S3 hg hm hv q hnn hdbg
        refine test (LM.here ?_)
        cases b with
        | true =>
          refine codeAny_handlers_suite_as ?_
          refine HandSPX.lands_againZ fl3 fun h4 fl4 up4 => ?_
          have J4 : Inv X pins σ' H' { s' with heap := h4 } := J.landed nb fl4.1 ((up.trans up3).trans up4) os ag
          obtain ⟨oe4, vs4, he4, hz4, hd4⟩ := fl4.there
          have S4 := J4.suite he4 hd4 na nL nF
          refine store_ok (X := X.suite a ((a, oe4) :: (X.pn ++ pins))) (v := .ref a) S4 hN hi hloc rfl (fun s5 S5 => ?_) (.inr hln)
          refine wpAny_mono ((hsu a oe4 cls d (X.pn ++ pins) hz4 ⟨_, hd4⟩).run [] s5 _ H' _ S5 (hyes rfl a na)) (fun f s6 hsp => ?_) (fun _ _ z => False.elim z)
          have end_ : ∀ {σ6 : St} {H6 : Hp} {Q : Shared → Prop}, Inv (X.suite a ((a, oe4) :: (X.pn ++ pins))) [] σ6 H6 s6 → (∀ s7, Inv X pins (σ6.set i none) H6 s7 → Q s7) →
              wpAny (model X.prog X.w) X.A (do bindName X.env n .none; unbindBehindTheSuite X.env n pos') (fun _ s7 => Q s7) X.xe s6 := fun {σ6 H6 Q} S6 hq => gone_ok (S6.unsuite ok) hN hi hln hq
          cases f with
          | next =>
            obtain ⟨σ6, H6, S6, q6⟩ := hsp
            exact end_ S6 fun s7 J7 => ⟨_, _, J7, q6⟩
          | brk =>
            obtain ⟨σ6, H6, S6, q6⟩ := hsp
            exact end_ S6 fun s7 J7 => ⟨_, _, J7, q6⟩
          | cont =>
            obtain ⟨σ6, H6, S6, q6⟩ := hsp
            exact end_ S6 fun s7 J7 => ⟨_, _, J7, q6⟩
          | ret u =>
            obtain ⟨v6, σ6, H6, S6, r6, q6⟩ := hsp
            exact end_ S6 fun s7 J7 => ⟨_, _, _, J7, r6, q6⟩
        | false =>
          show wpAny _ X.A (handleBy (.ref a) X.env hds2) _ _ _
          exact ih (hno rfl)
    exact go hh w
  · cases f with
    | next =>
      obtain ⟨σ', H', J', q⟩ := hsp
      exact wpAny_execs_nil ⟨σ', H', J'.ofTry ok, q⟩
    | brk =>
      obtain ⟨σ', H', J', q⟩ := hsp
      exact ⟨σ', H', J'.ofTry ok, q⟩
    | cont =>
      obtain ⟨σ', H', J', q⟩ := hsp
      exact ⟨σ', H', J'.ofTry ok, q⟩
    | ret u =>
      obtain ⟨v, σ', H', J', r, q⟩ := hsp
      exact ⟨v, σ', H', J'.ofTry ok, r, q⟩
end
end L2

set_option Elab.async false
set_option linter.all false
set_option maxRecDepth 100000
set_option maxHeartbeats 4000000
namespace J
open PySem PySem.Spec PyProof.Rows L2
theorem RowsAt.rows {H : Hp} {p : Addr} {m : Nat} {ps : List Addr} {tss : List (List Int)} (h : RowsAt H p m ps tss) : Rows m tss := fun j ts e => by
  have hj := (List.getElem?_eq_some_iff.mp e).1
  have := h.2.1
  exact (h.2.2 j _ ts (List.getElem?_eq_getElem (by omega)) e).2
abbrev s_Ltold : Stmt := top 32
theorem sc_Ltold : FnScope ["_law_company", "_law_x", "_law_y", "_law_tie", "e"] ["_law_company", "_law_x", "_law_y"] (defScope s_Ltold) := ⟨rfl, rfl, rfl, by decide +kernel, rfl, by decide +kernel, by decide +kernel⟩
/-- what is told of two labels -/
def toldW (ns is : List Int) (tss : List (List Int)) (v u : V) : Str × V := match seat is v, seat is u with
  | none, _ => ("no guest", v)
  | some _, none => ("no guest", u)
  | some i, some j => if i = j then ("alike", v) else ("tie", .int (lcell ns tss i j))
theorem toldW_same {ns is : List Int} {tss : List (List Int)} {v u : V} {i : Nat} (e1 : seat is v = some i) (e2 : seat is u = some i) : toldW ns is tss v u = (("alike" : Str), v) := by
  unfold toldW
  rw [e1, e2]
  exact if_pos rfl
theorem toldW_tie {ns is : List Int} {tss : List (List Int)} {v u : V} {i j : Nat} (e1 : seat is v = some i) (e2 : seat is u = some j) (n : i ≠ j) : toldW ns is tss v u = (("tie" : Str), .int (lcell ns tss i j)) := by
  unfold toldW
  rw [e1, e2]
  exact if_neg n
def spTold (C CC : Addr) : Sp := fun vs H Q _ => ∃ (x : Addr) (ns is : List Int) (tss : List (List Int)) (v u : V), vs = [.ref x, v, u] ∧ CompAt C CC H x ns is tss ∧ isSc v = true ∧ isSc u = true ∧ ∀ (H' : Hp) (z : Addr), Same H H' → H z = none → H' z = some (.tup [.str (toldW ns is tss v u).1, (toldW ns is tss v u).2]) → Q (.ref z) H'
section
variable {P : Program} {w : World} {K : PySem.W.Frag} {mg : Str → Option Value} {base : Heap}
theorem ok_Ltold {f C CC CN CL fT fI fJ : Addr} {fd fdT fdI fdJ : FuncData} (F : Fun K "_law_told" "_law_told" s_Ltold f fd) (c : CoC K CC) (nis : mg "isinstance" = none) (nb : mg "bool" = none) (ni : mg "int" = none)
    (GT : Mt P w K mg base (L2.CX P w) 5 CC "tie_of" fT fdT ["self", "x", "y"] (spCTie C CC CN CL)) (GN : Ex P w K mg base "NoGuest" "label" CN fI fdI ["self", "label"]) (GA : Ex P w K mg base "Alike" "label" CL fJ fdJ ["self", "label"]) (xn : PySem.W.exmOne K (.ref CL) (.ref CN) = some false) :
    FnOk P w K mg base CX0 6 f fd ["_law_company", "_law_x", "_law_y"] (spTold C CC) := by
  refine F.ok sc_Ltold (fun vs H Q E h => ?_) (fun cdv A outer s H vs Q E hr h => ?_)
  · obtain ⟨x, ns, is, tss, v, u, rfl, _⟩ := h
    rfl
  · obtain ⟨x, ns, is, tss, v, u, rfl, hC, sv, su, k⟩ := h
    obtain ⟨dx, t, g, r, b, p, ps, kvs, a1, a2, a3, a4, a5, a6, a7, a8, a9, _⟩ := id hC
    refine ⟨_, (pss_cons 
  (ps_try_many_as (Wout := fun _ _ _ _ => False) rfl rfl sc_Ltold.nd takes0 (fun W pn xe tk _ => (pss_one 
    (ps_set (i := 3) sc_Ltold.nd rfl (Or.inl rfl) (by exact (pmetS (pv 0) c.cl GT.M GT.F hr GT.b (fun σ => passAt tk σ) (by exact (pa_cons (pv 1) (pa_cons (pv 2) pa_nil)))))))) 
    (.cons (i := 4) rfl rfl ⟨rfl, by decide, Or.inl GN.m⟩ (fun a oe cls d pn hz hf => (pss_one (ps_ret (pe_tup (pa_cons pe_str (pa_cons (pe_xf GN.xf GN.no hz hf (pv 4)) pa_nil))))))
    (.cons (i := 4) rfl rfl ⟨rfl, by decide, Or.inl GA.m⟩ (fun a oe cls d pn hz hf => (pss_one (ps_ret (pe_tup (pa_cons pe_str (pa_cons (pe_xf GA.xf GA.no hz hf (pv 4)) pa_nil)))))) .nil))) (pss_cons 
  (ps_if (PW.pt (pw_or (pt_not (pt_val (pe_callB call_isi (by rfl) nis (by decide +kernel) (pa_cons (pv 3) (pa_cons (pe_bltn (by rfl) ni (by decide +kernel) (v := .ty "int") rfl) pa_nil))))) (pw_or1 (pt_val (pe_callB call_isi (by rfl) nis (by decide +kernel) (pa_cons (pv 3) (pa_cons (pe_bltn (by rfl) nb (by decide +kernel) (v := .ty "bool") rfl) pa_nil))))))) (pss_one 
    (ps_ret (pe_tup (pa_cons pe_str (pa_cons (pv 3) pa_nil))))) pss_nil) (pss_one 
  (ps_ret (pe_tup (pa_cons pe_str (pa_cons (pv 3) pa_nil))))))), ?_⟩
    have isv : Is H v (.sc v) := ⟨rfl, sv⟩
    have isu : Is H u (.sc u) := ⟨rfl, su⟩
    refine ⟨_, rfl, x, dx, _, rfl, a1, cf_no _ _ _ _ _ (by decide +kernel) (by decide +kernel) (by decide +kernel) (by decide +kernel) (by decide +kernel), _, rfl, _, rfl, x, ns, is, tss, v, u, .sc v, .sc u, rfl, hC, isv, isu, fun e1 => ?_, fun i e1 e2 => ?_, fun i e1 e2 => ?_, fun i j e1 e2 nij => ?_⟩
    · intro d H' nd S e
      refine ⟨true, GN.te, fun _ a ha => ?_, fun q => nomatch q⟩
      refine ⟨_, rfl, rfl, rfl, d, _, v, rfl, e, by simp [List.lookup], (by show 2 ≤ sizeLine; decide), fun z hz => ?_⟩
      refine k _ z (S.trans (new_same hz)) (S.free hz) ?_
      unfold toldW
      rw [e1]
      exact upd_same
    · intro d H' nd S e
      refine ⟨true, GN.te, fun _ a ha => ?_, fun q => nomatch q⟩
      refine ⟨_, rfl, rfl, rfl, d, _, u, rfl, e, by simp [List.lookup], (by show 2 ≤ sizeLine; decide), fun z hz => ?_⟩
      refine k _ z (S.trans (new_same hz)) (S.free hz) ?_
      unfold toldW
      rw [e1, e2]
      exact upd_same
    · intro d H' nd S e
      refine ⟨false, xn, (fun q => nomatch q), fun _ => ⟨true, GA.te, fun _ a ha => ?_, fun q => nomatch q⟩⟩
      refine ⟨_, rfl, rfl, rfl, d, _, v, rfl, e, by simp [List.lookup], (by show 2 ≤ sizeLine; decide), fun z hz => ?_⟩
      refine k _ z (S.trans (new_same hz)) (S.free hz) ?_
      rw [toldW_same e1 e2]
      exact upd_same
    · obtain ⟨_, _, _, hi⟩ := seat_some e1
      obtain ⟨_, _, _, hj⟩ := seat_some e2
      rw [cell_int a4.rows (by omega) (by omega) nij]
      refine ⟨_, rfl, _, _, _, _, true, rfl, .ty "int", .base (.int _), kit_ty kt_int_int, _, rfl, iteF ?_⟩
      refine ⟨_, rfl, _, _, _, _, false, rfl, .ty "bool", .base (.int _), kit_ty kt_int_bool, _, rfl, iteF ?_⟩
      refine ⟨_, rfl, (by show 2 ≤ sizeLine; decide), fun z hz => ?_⟩
      refine k _ z (new_same hz) hz ?_
      rw [toldW_tie e1 e2 nij]
      exact upd_same
end
end J

set_option Elab.async false
set_option linter.all false
set_option maxRecDepth 100000
set_option maxHeartbeats 2000000
namespace PySem.W
abbrev tiObj (g : Addr) : Obj := { cls := .type "tuple_iterator", data := .fields #[.ref g, .int 0 0] }
theorem pyIter_own {K : Frag} {prog : Program} {w : World} {A : Around} {E : Value → Shared → Prop} {s : Shared} {x C f : Addr} {ox : Obj} {od : Option Obj} {Q : Value → Shared → Prop} (X : K.In s.heap) (I : InstAt s.heap x ox C od) (hs : findIn K (.ref C) "__iter__" = some (some (.ref f))) (hf : isFn K (.ref f) = true)
    (h : wpAny (model prog w) A (call (.ref f) [.ref x]) (fun it s' => ∃ a g, it = .ref a ∧ s'.heap.get? a = some (tiObj g) ∧ Q (.ref a) s') E s) : wpAny (model prog w) A (pyIter (.ref x)) Q E s := by
  unfold pyIter
  refine wpAny_bind (wpAny_bind (I.type.here ((looks_findIn X hs).here ?_)))
  dsimp only
  unfold callSpecialIfBoundUnlessNone? bindSpecialIfBound?
  refine wpAny_bind (wpAny_holding (wpAny_bind (wpAny_bind (wpAny_bind (I.type.here ((looks_findIn X hs).here ?_))))))
  dsimp only
  refine wpAny_bind (wpAny_askSetting (wpAny_ite ?_))
  split
  · refine wpAny_bind ((bind_fn X _ (beq_iff_eq.mp hf)).here (wpAny_pure ?_))
    dsimp only
    rw [if_neg (by simp)]
    refine wpAny_bind (wpAny_mono h (fun it s' hq => ?_) fun _ _ z => z)
    obtain ⟨a, g, e, hg, q⟩ := hq
    subst e
    have hT : s'.TypeIs (.ref a) "tuple_iterator" := ⟨_, hg, rfl⟩
    refine wpAny_pure ?_
    exact wpAny_bind (wpAny_specialOf (name := Str.ofString "__next__") hT F.slot_tuple_iterator_next.lookup (wpAny_pure q))
  · refine wpAny_tryCatch (wpAny_bind ((bind_fn X _ (beq_iff_eq.mp hf)).here (wpAny_pure ?_)))
    dsimp only
    rw [if_neg (by simp)]
    refine wpAny_bind (wpAny_mono h (fun it s' hq => ?_) fun _ _ z => z)
    obtain ⟨a, g, e, hg, q⟩ := hq
    subst e
    have hT : s'.TypeIs (.ref a) "tuple_iterator" := ⟨_, hg, rfl⟩
    refine wpAny_pure ?_
    exact wpAny_bind (wpAny_specialOf (name := Str.ofString "__next__") hT F.slot_tuple_iterator_next.lookup (wpAny_pure q))
end PySem.W
namespace J
open PySem PySem.Spec PyProof.Rows L2
open PySem.W (tiObj)
def ItTO (g it : Addr) : HO := .ext fun h => h.get? it = some (tiObj g)
theorem itTO_ok {P : Program} {w : World} {H : Hp} {h : Heap} {it g : Addr} (e : h.get? it = some (tiObj g)) : ObjOk P w H h it (ItTO g it) := ⟨e, ⟨_, e⟩, fun h1 h2 q k => k _ q⟩
def rIterT (K : PySem.W.Frag) (n : Nat) : List V → Hp → VK → Prop := fun xs H Q => ∃ (g : Addr) (zs : List V), xs = [.ref g] ∧ SqT K H g zs ∧ ∀ it, H it = none → n ≤ it → Q (.ref it) (upd H it (ItTO g it))
theorem call_iterT {X : Cx} : CallR X (.builtin "iter") (rIterT X.K X.s_0.heap.objs.size) := by
  intro pins s σ H xs us Q I r h
  obtain ⟨g, zs, rfl, hq, q⟩ := h
  obtain ⟨u, rfl, ru⟩ := vals1 r
  cases ru
  obtain ⟨its, rv, p, hz⟩ := I.tuple hq
  refine Calls.call_function_entry (by decide +kernel) (by decide +kernel) PySem.W.kdk_entry_iter (PySem.W.kdk_args_iter _) ?_
  unfold Builtin.«iter»
  refine wpAny_bind (m := someArgs "iter" 1 2 _) (wpAny_of_eq (a := [Value.ref g]) (by first | rfl | kernel_rfl!) ?_)
  show wpAny _ _ (pyIter (.ref g) >>= _) _ _ _
  refine wpAny_bind (wpAny_pyIter_tuple (show s.heap.IsTuple g its.toArray from p) ?_)
  refine wpAny_pure ⟨_, rfl, ?_⟩
  exact ⟨.ref s.heap.objs.size, _, I.laid (t' := s.toks) (fun b u e => Heap.get?_push_of_some _ e) (Nat.le_refl _) (itTO_ok (Heap.get?_push_size _ rfl)), rfl, q _ (I.hok.fresh (Nat.le_refl _)) I.sz⟩
/-- a def whose promise may speak of the size of the heap at the call -/
def FnSz (P : Program) (w : World) (K : PySem.W.Frag) (mg : Str → Option Value) (base : Heap) (k : Nat) (f : Addr) (fd : FuncData) (ps : List Str) (sp : Nat → Sp) : Prop :=
  ∀ (A : Around) (outer : List Env) (s : Shared) (H : Hp) (args : Args) (us : List Value) (vs : List V) (Q : VK) (E : XK), Room k A → Env0 P w K mg base A outer s H → BindsTo s fd args (ps.zip us) → Vals vs us → vs.length = ps.length → sp s.heap.objs.size vs H Q E →
    codeAny (model P w) A (.call (.ref f) args) (CR CX0 outer P w H s Q E) s
end J
namespace J
open PySem PySem.Spec PyProof.Rows L2
theorem fnSz_of {P : Program} {w : World} {K : PySem.W.Frag} {mg : Str → Option Value} {base : Heap} {k : Nat} {f : Addr} {name qual : Str} {params : Arguments} {body : List Stmt} {scope : Scope} {dV kV doc pm cdv ct oc : Value} {an od : Option Addr}
    {osl : Array (Option Value)} {N ps : List Str} {sp : Nat → Sp} (lk : K.lookup f = some ⟨oc, od, .func (PySem.W.fnOf name qual params body scope dV kV doc pm an cdv ct), osl⟩) (hcd : PySem.W.codeIn K cdv qual = true) (S : FnScope N ps scope)
    (hbody : ∀ (A : Around) (outer : List Env) (s : Shared) (H : Hp) (vs : List V) (Q : VK) (E : XK), Room k (A.deeper (envOfC qual scope s.heap.objs.size f cdv)) → sp s.heap.objs.size vs H Q E →
      ∃ t, PSs (cxOf CX0 P w K mg base N qual scope f cdv A outer s H E) body t ∧ t { nx := fun _ H' => Q .non H', rt := Q } (start N vs) H) :
    FnSz P w K mg base (k + 1) f (PySem.W.fnOf name qual params body scope dV kV doc pm an cdv ct) ps sp := by
  intro A outer s H args us vs Q E hr e0 hb r hl hsp
  have KX : K.In s.heap := e0.mod.kin.keeps fun b o e => (e0.bs b o e).1
  have lim : s.heap.NoLimit := e0.mod.nolimit.keeps fun b o e => (e0.bs b o e).1
  have hkind : ∀ y ∈ ps.zip us, scope.names.lookup y.1 = some .local ∨ (scope.names.lookup y.1 = some .cell ∧ ((cellsFrom (s.heap.objs.size + 1) scope.names []).lookup y.1).isSome = true) := fun ⟨n, v⟩ hy => by
    rcases S.par n (List.of_mem_zip hy).1 with q | q
    · exact .inl q
    · exact .inr ⟨q, PySem.W.cellsFrom_some _ _ _ (.inl q)⟩
  refine codeAny_call_function hr.depth (KX _ _ lk) rfl S.co S.gen rfl (PySem.W.codeRec_of KX hcd) (hb _ _ _ _ ?_)
  refine wpAny_newFunctionEnv_cells S.kind hkind fun env he s1 x => ?_
  subst he
  refine ⟨lim.keeps x.toInCall.keep, codeAny_func ?_⟩
  obtain ⟨t, ht, hq⟩ := hbody A outer s H vs Q E (hr.deeper _) hsp
  have I : Inv (cxOf CX0 P w K mg base N qual scope f cdv A outer s H E) [] (start N vs) H s1 := inv_start S hr.hd e0 hl r x
  refine wpAny_mono (ht.run [] s1 (start N vs) H _ I hq) (fun fl s' hs => ?_) fun e s' hs => hs
  have fin : ∀ {σ' : L2.St} {H' : Hp} {v : V} {u : Value}, Inv (cxOf CX0 P w K mg base N qual scope f cdv A outer s H E) [] σ' H' s' → RelV v u → Q v H' → CE outer P w H s Q u s' :=
    fun {σ' H' v u} J rv q => ⟨v, H', J.os, J.bare, J.base, J.hok, rv, q⟩
  cases fl with
  | ret u =>
    obtain ⟨v, σ', H', J, rv, q⟩ := hs
    exact fin J rv q
  | next =>
    obtain ⟨σ', H', J, q⟩ := hs
    exact fin (v := V.non) (u := Value.none) J rfl q
  | brk =>
    obtain ⟨_, _, _, q⟩ := hs
    exact False.elim q
  | cont =>
    obtain ⟨_, _, _, q⟩ := hs
    exact False.elim q
/-- a def that returns an iterator over a tuple that the instance holds -/
def spIt (C : Addr) (G : Hp → Addr → Addr → Prop) : Nat → Sp := fun n vs H Q _ => ∃ (b g : Addr) (zs : List V), vs = [.ref b] ∧ G H b g ∧ H g = some (.tup zs) ∧ ∀ it, H it = none → n ≤ it → Q (.ref it) (upd H it (ItTO g it))
def iOwnT (K : PySem.W.Frag) (C : Addr) (G : Hp → Addr → Addr → Prop) (ta : TE) : TI := fun σ H R => ta σ H fun x H1 => ∃ b dx fs g zs, x = .ref b ∧ H1 b = some (.ins C dx fs) ∧ G H1 b g ∧ H1 g = some (.tup zs) ∧ R (Itt K g) H1
theorem pi_own {X : Cx} {C f : Addr} {fd : FuncData} {ps : List Str} {k : Nat} {G : Hp → Addr → Addr → Prop} {tg e : Expr} {ta : TE} (he : PE X e ta) (F : FnSz X.prog X.w X.K X.mg X.base k f fd ps (spIt C G)) (hs : PySem.W.findIn X.K (.ref C) "__iter__" = some (some (.ref f))) (hf : PySem.W.isFn X.K (.ref f) = true)
    (hb : Binds X.K fd ps []) (hl1 : ps.length = 1) (hr : Room k X.A) : PI X tg e (iOwnT X.K C G ta) := by
  refine ⟨fun pins s σ H R I h => ?_⟩
  refine thn (he.run pins s σ H _ I h) fun v s1 ⟨x, H1, I1, rx, q1⟩ => ?_
  obtain ⟨b, dx, fs, g, zs, ex, eb, hG, eg, q⟩ := q1
  subst ex
  obtain rfl : v = Value.ref b := rx
  obtain ⟨mA, J, _⟩ := ins_get I1.hok eb
  obtain ⟨od, J, _⟩ := J.look
  have r2 : Vals [V.ref b] [Value.ref b] := .cons rfl .nil
  refine PySem.W.pyIter_own I1.kIn J hs hf ?_
  have bd := hb s1 [Value.ref b] I1.kIn (by rw [List.append_nil, hl1]; rfl)
  rw [List.append_nil] at bd
  have run := F X.A X.stack s1 H1 ⟨[.ref b], []⟩ [.ref b] [.ref b] (fun v H' => ∃ it, v = .ref it ∧ H1 it = none ∧ s1.heap.objs.size ≤ it ∧ H' = upd H1 it (ItTO g it)) (fun _ _ _ => False) hr I1.env0 bd r2 (by rw [hl1]; rfl) ⟨b, g, zs, rfl, hG, eg, fun it n1 n2 => ⟨it, rfl, n1, n2, rfl⟩⟩
  refine wpAny_call (codeAny_mono run fun r s' hq => ?_)
  cases r with
  | error e => exact hq.elim
  | ok fl =>
    cases fl with
    | ret u =>
      obtain ⟨v, H', I3, rv, it, ev, n1, n2, eH⟩ := I1.after hq
      subst ev
      subst eH
      obtain rfl : u = Value.ref it := rv
      have hit : s'.heap.get? it = some (PySem.W.tiObj g) := (I3.hok it _ upd_same).1
      have young : X.s_0.heap.objs.size ≤ it := Nat.le_trans I1.sz n2
      have I4 := ItX.inv_drop I3 (a := it) upd_same
      rw [ItX.dropH_upd n1] at I4
      have fp := ItX.inv_fp I3 (a := it) upd_same young
      rw [ItX.dropH_upd n1] at fp
      refine ⟨it, g, rfl, hit, ⟨it, [it], _, _, H1, rfl, I4, turn_tuple g it, ⟨_, hit, rfl, rfl⟩, fun c hc => ?_, q⟩⟩
      have e : c = it := by simpa using hc
      subst e
      exact fp
    | next => exact hq.elim
    | brk => exact hq.elim
    | cont => exact hq.elim
end J

set_option Elab.async false
set_option linter.all false
set_option maxRecDepth 100000
set_option maxHeartbeats 2000000
namespace J
open PySem PySem.Spec PyProof.Rows L2
/-! ### != of two lists that are equal: plain items, the same object, or tuples of the same plain items -/
def SameV (K : PySem.W.Frag) (H : Hp) (u v : V) : Prop := (u = v ∧ flatB u = true) ∨ (∃ c, u = .ref c ∧ v = .ref c) ∨ ∃ a b xs, u = .ref a ∧ v = .ref b ∧ SqT K H a xs ∧ SqT K H b xs ∧ ∀ x ∈ xs, flatB x = true
theorem paired_at {α β : Type} {R : α → β → Prop} : ∀ {xs : List α} {ys : List β}, Paired R xs ys → ∀ (j : Nat) (h1 : j < xs.length) (h2 : j < ys.length), R xs[j] ys[j]
  | _, _, .nil, _, h, _ => absurd h (Nat.not_lt_zero _)
  | _, _, .cons h _, 0, _, _ => h
  | _, _, .cons _ t, j + 1, h1, h2 => paired_at t j (Nat.lt_of_succ_lt_succ h1) (Nat.lt_of_succ_lt_succ h2)
section
variable {X : Cx} {pins : List (Addr × Obj)} {σ : L2.St} {H : Hp} {s : Shared}
theorem tuples_run (I : Inv X pins σ H s) {A : Around} (hu : A.units + 1 < cLine) {a b : Addr} {xs : List V} (ha : SqT X.K H a xs) (hb : SqT X.K H b xs) (hx : ∀ x ∈ xs, flatB x = true) : SeqAt.EqAt A s (.ref a) (.ref b) true := by
  obtain ⟨us, r1, p1, _⟩ := I.tuple ha
  obtain ⟨ws, r2, p2, _⟩ := I.tuple hb
  by_cases e : a = b
  · subst e
    exact SeqAt.EqAt.same _
  · have l1 := r1.length
    have l2 := r2.length
    have q := SeqAt.RcAt.tuples (A := A) (e := fun _ => true) p1 p2 (by omega) (fun j h1 h2 => by
      have j1 : j < us.length := by simpa using h1
      have j2 : j < ws.length := by simpa using h2
      have jx : j < xs.length := by omega
      obtain ⟨u, eu, ru⟩ := r1.get (List.getElem?_eq_getElem jx)
      obtain ⟨v, ev, rv⟩ := r2.get (List.getElem?_eq_getElem jx)
      have e1 : us.toArray[j] = u := by
        have := List.getElem?_eq_getElem j1
        rw [eu] at this
        simpa using (Option.some.inj this).symm
      have e2 : ws.toArray[j] = v := by
        have := List.getElem?_eq_getElem j2
        rw [ev] at this
        simpa using (Option.some.inj this).symm
      rw [e1, e2]
      exact eqAt_same ru rv (hx _ (List.getElem_mem jx)))
    refine SeqAt.EqAt.of_refs e ?_
    have hsz : us.toArray.size = ws.toArray.size := by simp; omega
    rw [show ((List.range (min us.toArray.size ws.toArray.size)).all fun _ => true) = true from List.all_eq_true.mpr fun _ _ => rfl, hsz] at q
    simpa using q
theorem same_run (I : Inv X pins σ H s) {A : Around} (hu : A.units + 1 < cLine) {x y : V} {u v : Value} (h : SameV X.K H x y) (ru : RelV x u) (rv : RelV y v) : SeqAt.EqAt A s u v true := by
  rcases h with ⟨rfl, f⟩ | ⟨c, rfl, rfl⟩ | ⟨a, b, xs, rfl, rfl, ha, hb, hx⟩
  · exact eqAt_same ru rv f
  · cases (show u = Value.ref c from ru)
    cases (show v = Value.ref c from rv)
    exact SeqAt.EqAt.same _
  · cases (show u = Value.ref a from ru)
    cases (show v = Value.ref b from rv)
    exact tuples_run I hu ha hb hx
end
def rNeL (K : PySem.W.Frag) : R2 := fun x y H Q => ∃ a b xs ys, x = .ref a ∧ y = .ref b ∧ SqL K H a xs ∧ SqL K H b ys ∧ Paired (SameV K H) xs ys ∧ Q (.bl false) H
theorem op_neL {X : Cx} (hu : X.A.units + 64 < cLine) : OpR X (compareOp .NotEq) (rNeL X.K) := by
  intro pins s σ H x y v u Q I rx ry ⟨a, b, xs, ys, ex, ey, ha, hb, hp, q⟩
  subst ex
  subst ey
  obtain rfl : v = Value.ref a := rx
  obtain rfl : u = Value.ref b := ry
  obtain ⟨us, r1, p1, _⟩ := I.list ha
  obtain ⟨ws, r2, p2, _⟩ := I.list hb
  have l1 := r1.length
  have l2 := r2.length
  have l3 := Paired.length hp
  have hsz : us.toArray.size = ws.toArray.size := by simp; omega
  have he : ∀ j (h1 : j < us.toArray.size) (h2 : j < ws.toArray.size), SeqAt.EqAt X.A.in1 s us.toArray[j] ws.toArray[j] true := fun j h1 h2 => by
    have j1 : j < us.length := by simpa using h1
    have j2 : j < ws.length := by simpa using h2
    have jx : j < xs.length := by omega
    have jy : j < ys.length := by omega
    obtain ⟨z, ez, rz⟩ := r1.get (List.getElem?_eq_getElem jx)
    obtain ⟨t, et, rt⟩ := r2.get (List.getElem?_eq_getElem jy)
    have e1 : us.toArray[j] = z := by
      have := List.getElem?_eq_getElem j1
      rw [ez] at this
      simpa using (Option.some.inj this).symm
    have e2 : ws.toArray[j] = t := by
      have := List.getElem?_eq_getElem j2
      rw [et] at this
      simpa using (Option.some.inj this).symm
    rw [e1, e2]
    have pj : SameV X.K H xs[j] ys[j] := paired_at hp j jx jy
    exact same_run I (A := X.A.in1) (by show X.A.units + 1 + 1 < cLine; omega) pj rz rt
  have k := SeqAt.RcNeAt.lists (A := X.A) (e := fun _ => true) p1.isList p2.isList hsz (by omega) he
  refine k X.prog X.w _ _ ?_
  rw [show ((List.range us.toArray.size).all fun _ => true) = true from List.all_eq_true.mpr fun _ _ => rfl]
  exact ⟨.bl false, H, I, rfl, q⟩
end J

set_option Elab.async false
set_option linter.all false
namespace J
open PySem PySem.Spec PyProof.Rows L2
def turns (a b c : Int) : Nat := (Builtin.Range.rangeSize a b c).toNat
theorem rg7 {a b : Int} (ha : 0 ≤ a) (ha' : a < 1000) (hb : 0 ≤ b) (hb' : b < 1000) : RgC a b 7 (turns a b 7) ∧ ∀ k : Nat, k < turns a b 7 → a + (k : Nat) * 7 < b := by
  have e : Builtin.Range.rangeSize a b 7 = if a < b then (b - a - 1) / 7 + 1 else 0 := by
    unfold Builtin.Range.rangeSize
    simp only [show (7 : Int) > 0 by decide, if_true]
  refine ⟨⟨by decide, by decide, ?_, ?_⟩, fun k hk => ?_⟩
  · unfold Builtin.Range.small
    rw [e]
    simp only [Builtin.Range.rangeFitsLong, Bool.and_eq_true, Bool.or_eq_true, decide_eq_true_eq, beq_iff_eq, show (7 : Int) > 0 by decide, if_true]
    split <;> omega
  · unfold turns
    rw [e]
    split <;> omega
  · unfold turns at hk
    rw [e] at hk
    split at hk <;> omega
theorem rg1 {a b : Int} (ha : 0 ≤ a) (ha' : a < 1000) (hb : 0 ≤ b) (hb' : b < 1000) : RgC a b 1 (turns a b 1) ∧ ∀ k : Nat, k < turns a b 1 → a + (k : Nat) * 1 < b := by
  have e : Builtin.Range.rangeSize a b 1 = if a < b then b - a else 0 := rangeSize_one a b
  refine ⟨⟨by decide, by decide, small_one (by omega) (by omega) (by omega) (by omega), ?_⟩, fun k hk => ?_⟩
  · unfold turns
    rw [e]
    split <;> omega
  · unfold turns at hk
    rw [e] at hk
    split at hk <;> omega
end J

set_option Elab.async false
set_option linter.all false
set_option maxRecDepth 100000
set_option maxHeartbeats 4000000
namespace J
open PySem PySem.Spec PyProof.Rows L2
def rNeS (K : PySem.W.Frag) : R2 := fun x y H Q => ((x = .non ∧ y = .non) ∨ ∃ a b xs, x = .ref a ∧ y = .ref b ∧ SqT K H a xs ∧ SqT K H b xs ∧ ∀ x ∈ xs, flatB x = true) ∧ Q (.bl false) H
theorem op_neS {X : Cx} (hu : X.A.units + 64 < cLine) : OpR X (compareOp .NotEq) (rNeS X.K) := by
  intro pins s σ H x y v u Q I rx ry ⟨h, q⟩
  rcases h with ⟨rfl, rfl⟩ | ⟨a, b, xs, ex, ey, ha, hb, hf⟩
  · cases (show v = Value.none from rx)
    cases (show u = Value.none from ry)
    exact SeqAt.RcNeAt.none_none X.prog X.w _ _ ⟨.bl false, H, I, rfl, q⟩
  · subst ex
    subst ey
    obtain rfl : v = Value.ref a := rx
    obtain rfl : u = Value.ref b := ry
    obtain ⟨us, r1, p1, _⟩ := I.tuple ha
    obtain ⟨ws, r2, p2, _⟩ := I.tuple hb
    have l1 := r1.length
    have l2 := r2.length
    have k := SeqAt.RcNeAt.tuples (A := X.A) (e := fun _ => true) p1 p2 (by omega) (fun j h1 h2 => by
      have j1 : j < us.length := by simpa using h1
      have j2 : j < ws.length := by simpa using h2
      have jx : j < xs.length := by omega
      obtain ⟨u, eu, ru⟩ := r1.get (List.getElem?_eq_getElem jx)
      obtain ⟨v, ev, rv⟩ := r2.get (List.getElem?_eq_getElem jx)
      have e1 : us.toArray[j] = u := by
        have := List.getElem?_eq_getElem j1
        rw [eu] at this
        simpa using (Option.some.inj this).symm
      have e2 : ws.toArray[j] = v := by
        have := List.getElem?_eq_getElem j2
        rw [ev] at this
        simpa using (Option.some.inj this).symm
      rw [e1, e2]
      exact eqAt_same ru rv (hf _ (List.getElem_mem jx)))
    have hsz : us.toArray.size = ws.toArray.size := by simp; omega
    rw [show ((List.range (min us.toArray.size ws.toArray.size)).all fun _ => true) = true from List.all_eq_true.mpr fun _ _ => rfl, hsz] at k
    refine k X.prog X.w _ _ ?_
    rw [show (!(true && ws.toArray.size == ws.toArray.size)) = false by simp]
    exact ⟨.bl false, H, I, rfl, q⟩

theorem lcell_back {ns : List Int} {tss : List (List Int)} (gb : GoodB ns) (R : Rows ns.length tss) {a b : Nat} (ha : a < tss.length) (hb : b < tss.length) (n : a ≠ b) : 0 ≤ lcell ns tss a b ∧ ns[(lcell ns tss a b).toNat]? = some (lcell ns tss b a) := by
  unfold lcell
  rcases Nat.lt_or_gt_of_ne n with c | c
  · rw [if_pos c, if_neg (by omega), if_pos c]
    have e := List.getElem?_eq_getElem hb
    obtain ⟨l, r⟩ := R b _ e
    have e2 := List.getElem?_eq_getElem (l := tss[b]) (i := a) (by omega)
    obtain ⟨t0, t1⟩ := r _ (List.mem_of_getElem? e2)
    rw [e]
    show 0 ≤ ns[((tss[b])[a]?.getD 0).toNat]?.getD 0 ∧ ns[(ns[((tss[b])[a]?.getD 0).toNat]?.getD 0).toNat]? = some ((tss[b])[a]?.getD 0)
    rw [e2]
    show 0 ≤ ns[((tss[b])[a]'(by omega)).toNat]?.getD 0 ∧ ns[(ns[((tss[b])[a]'(by omega)).toNat]?.getD 0).toNat]? = some ((tss[b])[a]'(by omega))
    have e3 := List.getElem?_eq_getElem (l := ns) (i := ((tss[b])[a]'(by omega)).toNat) (by omega)
    rw [e3]
    have q := gb.inv _ _ e3
    obtain ⟨v0, _⟩ := gb.rng _ (List.mem_of_getElem? e3)
    refine ⟨v0, ?_⟩
    show ns[(ns[((tss[b])[a]'(by omega)).toNat]'(by omega)).toNat]? = _
    rw [q, Int.toNat_of_nonneg t0]
  · rw [if_neg (by omega), if_pos c, if_pos c]
    have e := List.getElem?_eq_getElem ha
    obtain ⟨l, r⟩ := R a _ e
    have e2 := List.getElem?_eq_getElem (l := tss[a]) (i := b) (by omega)
    obtain ⟨t0, t1⟩ := r _ (List.mem_of_getElem? e2)
    rw [e]
    show 0 ≤ (tss[a])[b]?.getD 0 ∧ ns[((tss[a])[b]?.getD 0).toNat]? = some (ns[((tss[a])[b]?.getD 0).toNat]?.getD 0)
    rw [e2]
    show 0 ≤ (tss[a])[b]'(by omega) ∧ ns[((tss[a])[b]'(by omega)).toNat]? = some (ns[((tss[a])[b]'(by omega)).toNat]?.getD 0)
    have e3 := List.getElem?_eq_getElem (l := ns) (i := ((tss[a])[b]'(by omega)).toNat) (by omega)
    rw [e3]
    exact ⟨t0, rfl⟩
theorem filter_ne : ∀ (n j : Nat), j < n → (List.range n).filter (fun i => decide (i ≠ j)) = (List.range (n - 1)).map (fun b => if b < j then b else b + 1)
  | 0, _, h => absurd h (Nat.not_lt_zero _)
  | n + 1, j, h => by
    rw [List.range_succ, List.filter_append]
    by_cases c : j = n
    · subst c
      rw [List.filter_cons_of_neg (by simp), List.filter_nil, List.append_nil, Nat.add_sub_cancel]
      rw [List.filter_eq_self.mpr (fun a ha => by have := List.mem_range.mp ha; simp; omega)]
      conv => lhs; rw [← List.map_id (List.range j)]
      refine List.map_congr_left fun a ha => ?_
      have := List.mem_range.mp ha
      rw [if_pos this]
      rfl
    · rw [filter_ne n j (by omega), List.filter_cons_of_pos (by simp; omega), List.filter_nil, Nat.add_sub_cancel]
      obtain ⟨m, rfl⟩ : ∃ m, n = m + 1 := ⟨n - 1, by omega⟩
      rw [Nat.add_sub_cancel, List.range_succ, List.map_append]
      congr 1
      show _ = [if m < j then m else m + 1]
      rw [if_neg (by omega)]
theorem row_list {ns : List Int} {tss : List (List Int)} {n j : Nat} {ys : List V} (R : Rows ns.length tss) (hn : n = tss.length) (hj : j < n) (ro : RowOf ns tss n j ys) : ys = (((List.range n).filter (fun i => decide (i ≠ j))).map fun i => lcell ns tss j i).map V.int := by
  obtain ⟨h1, h2⟩ := ro
  rw [filter_ne n j hj]
  refine List.ext_getElem? fun b => ?_
  rw [List.map_map, List.map_map, List.getElem?_map]
  by_cases c : b + 1 < n
  · rw [h2 b c, List.getElem?_range (by omega)]
    show some (cell ns tss j (if b < j then b else b + 1)) = some (V.int (lcell ns tss j (if b < j then b else b + 1)))
    rw [cell_int R (by omega) (by split <;> omega) (by split <;> omega)]
  · rw [List.getElem?_eq_none (by omega), List.getElem?_eq_none (by rw [List.length_range]; omega)]
    rfl
abbrev s_Company_iter : Stmt := inClass (top 18) 3
theorem sc_Company_iter : FnScope ["self"] ["self"] (defScope s_Company_iter) := ⟨rfl, rfl, rfl, by decide +kernel, rfl, by decide +kernel, by decide +kernel⟩
def GuestsOf (CC : Addr) (H : Hp) (x g : Addr) : Prop := ∃ dx t r b p, H x = some (.ins CC dx (cf t g r b p))
abbrev s_Lright : Stmt := top 34
theorem sc_Lright : FnScope ["_law_company", "_law_backs_here", "_law_labels_here", "_law_rows", "_law_table", "_law_step", "_law_j", "_law_row", "_law_i", "_law_label"] ["_law_company", "_law_backs_here", "_law_labels_here", "_law_rows"] (defScope s_Lright) := ⟨rfl, rfl, rfl, by decide +kernel, rfl, by decide +kernel, by decide +kernel⟩
def spRight2 (C CC : Addr) : Sp := fun vs H Q _ => ∃ (x b lb l : Addr) (ns is : List Int) (ps : List Addr) (tss : List (List Int)), vs = [.ref x, .ref b, .ref lb, .ref l] ∧ CompAt C CC H x ns is tss ∧ H b = some (.lst (ns.map V.int)) ∧ GoodB ns ∧ H lb = some (.lst (is.map V.int)) ∧ LinesAt H l ps tss ∧ ∀ H', Same H H' → Q (.bl true) H'
section
variable {P : Program} {w : World} {K : PySem.W.Frag} {mg : Str → Option Value} {base : Heap}
theorem ok_Company_iter {f C CC : Addr} {fd : FuncData} (F : Fun K "__iter__" "Company.__iter__" s_Company_iter f fd) (c : CoC K CC) (nit : mg "iter" = none) : FnSz P w K mg base 1 f fd ["self"] (spIt CC (GuestsOf CC)) := by
  obtain ⟨oc, od, kV, doc, pm, an, cdv, ct, osl, rfl, lk, hcd⟩ := F.ex
  refine fnSz_of lk hcd sc_Company_iter fun A outer s H vs Q E hr h => ?_
  obtain ⟨b, g, zs, rfl, ⟨dx, t, r, bb, p, a1⟩, eg, k⟩ := h
  refine ⟨_, (pss_one (ps_ret (pe_callB call_iterT (by rfl) nit (by decide +kernel) (pa_cons (pe_fld (pv 0) rfl) pa_nil)))), ?_⟩
  exact ⟨_, rfl, b, CC, dx, _, _, rfl, a1, c.cl, c.nG, cf_guests _ _ _ _ _, g, zs, rfl, SqT.of eg, fun it n1 n2 => k it n1 n2⟩
theorem ok_Lright {f C CC CN fT fL fI fC fR fO : Addr} {fd fdT fdL fdI fdC fdR fdO : FuncData} (F : Fun K "_law_right" "_law_right" s_Lright f fd) (T : TiC K C) (c : CoC K CC) (nl : mg "len" = none) (nis : mg "isinstance" = none) (nt : mg "tuple" = none) (nli : mg "list" = none) (nr : mg "range" = none)
    (GT : Cal P w K mg base CX0 1 "_law_table_of" fT fdT ["_law_backs_here", "_law_rows"] spLTab)
    (GL : FnOk P w K mg base CX0 1 fL fdL ["self"] (spCLen C CC)) (aL : PySem.W.findIn K (.ref CC) "__len__" = some (some (.ref fL))) (iL : PySem.W.isFn K (.ref fL) = true) (bL : Binds K fdL ["self"] [])
    (GI : FnSz P w K mg base 1 fI fdI ["self"] (spIt CC (GuestsOf CC))) (aI : PySem.W.findIn K (.ref CC) "__iter__" = some (some (.ref fI))) (iI : PySem.W.isFn K (.ref fI) = true) (bI : Binds K fdI ["self"] [])
    (FC : FnOk P w K mg base CX0 3 fC fdC ["self", "label"] (spCIn C CC)) (aC : PySem.W.findIn K (.ref CC) "__contains__" = some (some (.ref fC))) (iC : PySem.W.isFn K (.ref fC) = true) (bC : Binds K fdC ["self", "label"] [])
    (GR : Mt P w K mg base (L2.CX P w) 5 CC "row_of" fR fdR ["self", "label"] (spCRow C CC CN)) (GO : Cal P w K mg base CX0 6 "_law_told" fO fdO ["_law_company", "_law_x", "_law_y"] (spTold C CC)) :
    FnOk P w K mg base CX0 7 f fd ["_law_company", "_law_backs_here", "_law_labels_here", "_law_rows"] (spRight2 C CC) := by
  refine F.ok sc_Lright (fun vs H Q E h => ?_) (fun cdv A outer s H vs Q E hr h => ?_)
  · obtain ⟨x, b, lb, l, ns, is, ps, tss, rfl, _⟩ := h
    rfl
  · obtain ⟨x, b, lb, l, ns, is, ps, tss, rfl, hC, eb, gb, elb, L, k⟩ := h
    have hrL : Room 2 _ := hr.mono (by decide)
    have hr3 : Room 3 _ := hr.mono (by decide)
    have hr5 : Room 5 _ := hr.mono (by decide)
    have hr1 : Room 1 _ := hr.mono (by decide)
    refine ⟨_, (pss_cons 
  (ps_set (i := 4) sc_Lright.nd rfl (Or.inr rfl) (pcal GT hr pass0 (pa_cons (pv 1) (pa_cons (pv 3) pa_nil)))) (pss_cons 
  (ps_if (PW.pt (pw_or (pt_not (pt_val (pe_callB call_isi (by rfl) nis (by decide +kernel) (pa_cons (pe_fld (pv 0) rfl) (pa_cons (pe_bltn (by rfl) nt (by decide +kernel) (v := .ty "tuple") rfl) pa_nil))))) (pw_or (pt_cmpR (op_neD hr.units) (pe_callTy call_list_of (by rfl) nli (by decide +kernel) (pa_cons (pe_fld (pv 0) rfl) pa_nil)) (pv 2) (nomark _)) (pw_or1 (pt_cmpR (op_neD hr.units) (pe_fld (pe_fld (pv 0) rfl) rfl) (pe_callTy call_tuple_of (by rfl) nt (by decide +kernel) (pa_cons (pv 1) pa_nil)) (nomark _)))))) (pss_one (ps_ret pe_bl)) pss_nil) (pss_cons 
  (ps_if (PW.pt (pw_or (pt_not (pt_val (pe_callB call_isi (by rfl) nis (by decide +kernel) (pa_cons (pe_fld (pv 0) rfl) (pa_cons (pe_bltn (by rfl) nt (by decide +kernel) (v := .ty "tuple") rfl) pa_nil))))) (pw_or (pt_cmpR op_ne (pe_callB call_len_seq (by rfl) nl PySem.boot_len (pa_cons (pe_fld (pv 0) rfl) pa_nil)) (pe_callB call_len_seq (by rfl) nl PySem.boot_len (pa_cons (pv 2) pa_nil)) (nomark _)) (pw_or1 (pt_cmpR op_ne (pe_callB (call_lenOwn (E := E0) GL aL iL bL hrL) (by rfl) nl PySem.boot_len (pa_cons (pv 0) pa_nil)) (pe_callB call_len_seq (by rfl) nl PySem.boot_len (pa_cons (pv 2) pa_nil)) (nomark _)))))) (pss_one (ps_ret pe_bl)) pss_nil) (pss_cons 
  (ps_if (pt_cmpR (op_neD hr.units) (pe_lc (own := [("_law_label", 9)]) (g := gName 9) (by rfl) sc_Lright.nd (pi_own (pv 0) GI aI iI bI rfl hr1) (blkOk_by (own := [("_law_label", 9)]) (N := ["_law_company", "_law_backs_here", "_law_labels_here", "_law_rows", "_law_table", "_law_step", "_law_j", "_law_row", "_law_i", "_law_label"]) (sc := defScope s_Lright) (by decide +kernel)) (fun _ _ _ _ _ => pg_name (i := 9) sc_Lright.nd rfl (Or.inl rfl)) (fun _ _ _ _ _ => pts_nil) (fun _ _ _ _ _ => (pv 9))) (pv 2) (nomark _)) (pss_one (ps_ret pe_bl)) pss_nil) (pss_cons 
  (ps_set (i := 5) sc_Lright.nd rfl (Or.inl rfl) (pe_ifExp (pt_cmpR op_lt (pe_callB call_len_seq (by rfl) nl PySem.boot_len (pa_cons (pv 2) pa_nil)) pe_int (nomark _)) pe_int pe_int)) (pss_cons 
  (ps_for PassesOwn.never rfl (pi_range1 (by rfl) nr (pa_cons (pe_callB call_len_seq (by rfl) nl PySem.boot_len (pa_cons (pv 2) pa_nil)) pa_nil)) (pg_name (i := 6) sc_Lright.nd rfl (Or.inr rfl)) (pss_cons 
    (ps_if (PW.pt (pw_or (pt_not (pt_val (pe_callB call_isi (by rfl) nis (by decide +kernel) (pa_cons (pe_ix ix_tup (pe_fld (pv 0) rfl) (pv 6) (fun _ _ => rfl)) (pa_cons (pe_bltn (by rfl) nt (by decide +kernel) (v := .ty "tuple") rfl) pa_nil))))) (pw_or (pt_cmpR (op_neD hr.units) (pe_callTy call_list_of (by rfl) nli (by decide +kernel) (pa_cons (pe_ix ix_tup (pe_fld (pv 0) rfl) (pv 6) (fun _ _ => rfl)) pa_nil)) (pe_ix ix_list (pv 3) (pv 6) (fun _ _ => rfl)) (nomark _)) (pw_or1 (pt_cmpR (op_niOwn FC aC iC bC pass0 hr3) (pe_ix ix_list (pv 2) (pv 6) (fun _ _ => rfl)) (pv 0) (by rfl)))))) (pss_one (ps_ret pe_bl)) pss_nil) (pss_cons 
    (ps_set (i := 7) sc_Lright.nd rfl (Or.inl rfl) (pe_meth (pv 0) c.cl GR.M GR.F hr5 GR.b .nil passL (pa_cons (pe_ix ix_list (pv 2) (pv 6) (fun _ _ => rfl)) pa_nil))) (pss_cons 
    (ps_if (PW.pt (pw_or (pt_not (pt_val (pe_callB call_isi (by rfl) nis (by decide +kernel) (pa_cons (pv 7) (pa_cons (pe_bltn (by rfl) nt (by decide +kernel) (v := .ty "tuple") rfl) pa_nil))))) (pw_or1 (pt_cmpR (op_neD hr.units) (pe_callTy call_list_of (by rfl) nli (by decide +kernel) (pa_cons (pv 7) pa_nil)) (pe_lc (own := [("_law_i", 8)]) (g := gName 8) (by rfl) sc_Lright.nd (pi_range1 (by rfl) nr (pa_cons (pe_callB call_len_seq (by rfl) nl PySem.boot_len (pa_cons (pv 2) pa_nil)) pa_nil)) (blkOk_by (own := [("_law_i", 8)]) (N := ["_law_company", "_law_backs_here", "_law_labels_here", "_law_rows", "_law_table", "_law_step", "_law_j", "_law_row", "_law_i", "_law_label"]) (sc := defScope s_Lright) (by decide +kernel)) (fun _ _ _ _ _ => pg_name (i := 8) sc_Lright.nd rfl (Or.inl rfl)) (fun _ _ _ _ _ => pts_one (pt_cmpR op_ne (pv 8) (pv 6) (nomark _))) (fun _ _ _ _ _ => (pe_ix (r := rIxL K) ix_list (pe_ix (r := rIxL K) ix_list (pv 4) (pv 6) (fun _ _ => rfl)) (pv 8) (fun _ _ => rfl)))) (nomark _))))) (pss_one (ps_ret pe_bl)) pss_nil) (pss_one 
    (ps_for PassesOwn.never rfl (pi_range3 (by rfl) nr (pa_cons (pe_op op_modN (pv 6) (pv 5)) (pa_cons (pe_callB call_len_seq (by rfl) nl PySem.boot_len (pa_cons (pv 2) pa_nil)) (pa_cons (pv 5) pa_nil)))) (pg_name (i := 8) sc_Lright.nd rfl (Or.inl rfl)) (pss_cons 
      (ps_if (PW.pt (pw_and (pt_cmpR op_ne (pv 8) (pv 6) (nomark _)) (pw_and1 (pt_cmpR (op_neS hr.units) (pcal GO hr pass0 (pa_cons (pv 0) (pa_cons (pe_ix ix_list (pv 2) (pv 6) (fun _ _ => rfl)) (pa_cons (pe_ix ix_list (pv 2) (pv 8) (fun _ _ => rfl)) pa_nil)))) (pe_tup (pa_cons pe_str (pa_cons (pe_ix ix_list (pe_ix ix_list (pv 4) (pv 6) (fun _ _ => rfl)) (pv 8) (fun _ _ => rfl)) pa_nil))) (nomark _))))) (pss_one (ps_ret pe_bl)) pss_nil) (pss_one 
      (ps_if (PW.pt (pw_and (pt_cmpR op_ne (pv 8) (pv 6) (nomark _)) (pw_and1 (pt_cmpR op_ne (pe_ix ix_list (pe_ix ix_list (pv 4) (pv 8) (fun _ _ => rfl)) (pv 6) (fun _ _ => rfl)) (pe_ix ix_list (pv 1) (pe_ix ix_list (pe_ix ix_list (pv 4) (pv 6) (fun _ _ => rfl)) (pv 8) (fun _ _ => rfl)) (fun _ _ => rfl)) (nomark _))))) (pss_one (ps_ret pe_bl)) pss_nil))))))))) (pss_one 
  (ps_ret pe_bl)))))))), ?_⟩
    obtain ⟨dx, t, g, r, tb, p, qs, kvs, a1, a2, a3, a4, a5, a6, a7, asc, tl, i60, labs⟩ := id hC
    have R : Rows ns.length tss := a4.rows
    have bl : (ns.map V.int).length = ns.length := List.length_map _
    have il : (is.map V.int).length = is.length := List.length_map _
    obtain ⟨dt, tt, w1, w2⟩ := id a2
    have cfl : (cf t g r tb p).lookup ("row_of" : Str) = none := cf_no _ _ _ _ _ (by decide +kernel) (by decide +kernel) (by decide +kernel) (by decide +kernel) (by decide +kernel)
    refine ⟨_, rfl, _, rfl, b, l, ns, ps, tss, rfl, eb, L, R, by omega, fun H1 z us S1 nz T1 => ?_⟩
    -- guests
    refine ⟨_, rfl, x, CC, dx, _, _, rfl, S1 _ _ a1, c.cl, c.nG, cf_guests _ _ _ _ _, _, _, _, _, true, rfl, .ty "tuple", .base (.tup (S1 _ _ a3)), kit_ty kt_tuple_tuple, _, rfl, iteF ?_⟩
    refine ⟨_, rfl, x, CC, dx, _, _, rfl, S1 _ _ a1, c.cl, c.nG, cf_guests _ _ _ _ _, g, _, rfl, .inr (SqT.of (S1 _ _ a3)), fun z1 hz1 => ?_⟩
    have T2 : Same H1 (upd H1 z1 (.lst (is.map V.int))) := new_same hz1
    have ez1 : (upd H1 z1 (.lst (is.map V.int))) z1 = some (.lst (is.map V.int)) := upd_same
    generalize upd H1 z1 (.lst (is.map V.int)) = H2 at T2 ez1
    have S2 := S1.trans T2
    refine ⟨_, rfl, _, _, .lst (SqL.of ez1) (dp_ints is), .lst (SqL.of (S2 _ _ elb)) (dp_ints is), shaped_li is, shaped_li is, _, rfl, if_fa (by rw [eqv_li]; simp) ?_⟩
    refine ⟨_, rfl, x, CC, dx, _, _, rfl, S2 _ _ a1, c.cl, c.nT, cf_ties _ _ _ _ _, t, C, dt, _, _, rfl, S2 _ _ w1, T.cl, T.nB, tf_backs _ _, _, rfl, b, _, rfl, .inl ⟨SqL.of (S2 _ _ eb), fun z2 hz2 => ?_⟩⟩
    have T3 : Same H2 (upd H2 z2 (.tup (ns.map V.int))) := new_same hz2
    have ez2 : (upd H2 z2 (.tup (ns.map V.int))) z2 = some (.tup (ns.map V.int)) := upd_same
    generalize upd H2 z2 (.tup (ns.map V.int)) = H3 at T3 ez2
    have S3 := S2.trans T3
    refine ⟨_, _, .tup (SqT.of (S3 _ _ w2)) (dp_ints ns), .tup (SqT.of ez2) (dp_ints ns), shaped_ti ns, shaped_ti ns, _, rfl, if_fa (by rw [eqv_ti]; simp) ?_⟩
    -- rows, len
    refine ⟨_, rfl, x, CC, dx, _, _, rfl, S3 _ _ a1, c.cl, c.nR, cf_rows _ _ _ _ _, _, _, _, _, true, rfl, .ty "tuple", .base (.tup (S3 _ _ a4.1)), kit_ty kt_tuple_tuple, _, rfl, iteF ?_⟩
    refine ⟨_, rfl, x, CC, dx, _, _, rfl, S3 _ _ a1, c.cl, c.nR, cf_rows _ _ _ _ _, r, _, rfl, .inr (SqT.of (S3 _ _ a4.1)), _, rfl, lb, _, rfl, .inl (SqL.of (S3 _ _ elb)), rfl, _, rfl, if_fa (by rw [List.length_map, List.length_map, a4.2.1, tl]; simp) ?_⟩
    refine ⟨_, rfl, x, dx, _, rfl, S3 _ _ a1, ⟨x, ns, is, tss, rfl, hC.keep S3, is.length, rfl, by omega, ?_⟩⟩
    refine ⟨_, rfl, lb, _, rfl, .inl (SqL.of (S3 _ _ elb)), rfl, _, rfl, if_fa (by rw [List.length_map]; simp) ?_⟩
    -- walked
    refine ⟨_, rfl, x, dx, _, g, _, rfl, S3 _ _ a1, ⟨dx, t, r, tb, p, S3 _ _ a1⟩, S3 _ _ a3, fun D hD => ?_⟩
    refine lc_tup (K := K) (a := g) (xs := is.map V.int) (fun i H4 => Same H3 H4 ∧ H3 D = none ∧ H4 D = some (.lst ((is.map V.int).take i))) ⟨new_same hD, hD, upd_same⟩ (fun i H4 _ ⟨S, _⟩ => SqT.of (S _ _ (S3 _ _ a3))) ?_ ?_
    · rintro i y H4 hy ⟨S4, D0, eD⟩
      refine ⟨rfl, yesT ?_⟩
      refine ⟨_, rfl, _, eD, by rw [List.length_take]; exact small1000 (by omega), fun o u eo => ?_, D0, by rw [upd_same, List.take_add_one, hy]; rfl⟩
      rw [upd_ne (ne_of_none eo D0)]
      exact S4 _ _ eo
    rintro H4 ⟨T4, D0, eD⟩
    rw [List.take_length] at eD
    have S4 := S3.trans T4
    refine ⟨_, rfl, _, _, .lst (SqL.of eD) (dp_ints is), .lst (SqL.of (S4 _ _ elb)) (dp_ints is), shaped_li is, shaped_li is, _, rfl, if_fa (by rw [eqv_li]; simp) ?_⟩
    refine ⟨_, rfl, lb, _, rfl, .inl (SqL.of (S4 _ _ elb)), _, _, rfl, rfl, _, rfl, ?_⟩
    refine ifD (fun cc => ?_) (fun cc => ?_)
    · refine ⟨_, rfl, lb, _, rfl, .inl (SqL.of (S4 _ _ elb)), _, rfl, by omega, by omega, for_range (lo := 0) (n := (is.map V.int).length) (fun j σ H5 => ∃ v6 v7 v8 : Option V, σ = [some (.ref x), some (.ref b), some (.ref lb), some (.ref l), some (.ref z), some (.int 1), v6, v7, v8, none] ∧ Same H4 H5)
        ⟨none, none, none, rfl, Same.refl _⟩ ?_ ?_⟩
      · rintro j σ H5 hj ⟨v6, v7, v8, rfl, T5⟩
        have e0 : (0 + ((j : Nat) : Int)) = ((j : Nat) : Int) := by omega
        rw [e0]
        have S5 := S4.trans T5
        have hji : j < is.length := by omega
        have ij := List.getElem?_eq_getElem hji
        have lj := ints_at ij
        have stj := seat_at asc ij
        generalize is[j] = n at ij lj stj
        have tj := List.getElem?_eq_getElem (l := tss) (i := j) (by omega)
        generalize tss[j]'(by omega) = ts at tj
        have qj := List.getElem?_eq_getElem (l := qs) (i := j) (by have := a4.2.1; omega)
        generalize qs[j]'(by have := a4.2.1; omega) = qa at qj
        obtain ⟨eq, _, _⟩ := a4.2.2 j qa ts qj tj
        have pj := List.getElem?_eq_getElem (l := ps) (i := j) (by have := L.2.1; omega)
        generalize ps[j]'(by have := L.2.1; omega) = pa at pj
        obtain ⟨_, ep⟩ := L.2.2 j pa ts pj tj
        have qjr : (qs.map V.ref)[j]? = some (.ref qa) := by rw [List.getElem?_map, qj]; rfl
        have pjr : (ps.map V.ref)[j]? = some (.ref pa) := by rw [List.getElem?_map, pj]; rfl
        refine ⟨_, rfl, x, CC, dx, _, _, rfl, S5 _ _ a1, c.cl, c.nR, cf_rows _ _ _ _ _, _, rfl, _, _, _, _, rfl, rfl, SqT.of (S5 _ _ a4.1), at_of (j := j) rfl qjr, _, _, _, _, true, rfl, .ty "tuple", .base (.tup (S5 _ _ eq)), kit_ty kt_tuple_tuple, _, rfl, iteF ?_⟩
        refine ⟨_, rfl, x, CC, dx, _, _, rfl, S5 _ _ a1, c.cl, c.nR, cf_rows _ _ _ _ _, _, rfl, _, _, _, _, rfl, rfl, SqT.of (S5 _ _ a4.1), at_of (j := j) rfl qjr, qa, _, rfl, .inr (SqT.of (S5 _ _ eq)), fun z3 hz3 => ?_⟩
        have T6 : Same H5 (upd H5 z3 (.lst (ts.map V.int))) := new_same hz3
        have ez3 : (upd H5 z3 (.lst (ts.map V.int))) z3 = some (.lst (ts.map V.int)) := upd_same
        generalize upd H5 z3 (.lst (ts.map V.int)) = H6 at T6 ez3
        have S6 := S5.trans T6
        refine ⟨_, rfl, _, rfl, _, _, _, _, rfl, rfl, SqL.of (S6 _ _ L.1), at_of (j := j) rfl pjr, _, _, .lst (SqL.of ez3) (dp_ints ts), .lst (SqL.of (S6 _ _ ep)) (dp_ints ts), shaped_li ts, shaped_li ts, _, rfl, if_fa (by rw [eqv_li]; simp) ?_⟩
        refine ⟨_, rfl, _, rfl, _, _, _, _, rfl, rfl, SqL.of (S6 _ _ elb), at_of (j := j) rfl lj, _, rfl, x, dx, _, rfl, S6 _ _ a1, ⟨x, ns, is, tss, .int n, .sc (.int n), rfl, hC.keep S6, ⟨rfl, rfl⟩, _, rfl, _, rfl, ?_⟩⟩
        rw [stj]
        refine iteF ?_
        -- his row
        refine ⟨_, rfl, x, dx, _, rfl, S6 _ _ a1, cfl, _, rfl, _, rfl, _, _, _, _, rfl, rfl, SqL.of (S6 _ _ elb), at_of (j := j) rfl lj, x, ns, is, tss, .int n, .sc (.int n), rfl, hC.keep S6, ⟨rfl, rfl⟩, (fun e => by rw [stj] at e; cases e), fun j' ej' H7 zr ys T7 ezr ro => ?_⟩
        obtain rfl : j = j' := by rw [stj] at ej'; exact Option.some.inj ej'
        have S7 := S6.trans T7
        refine ⟨_, rfl, _, _, _, _, true, rfl, .ty "tuple", .base (.tup ezr), kit_ty kt_tuple_tuple, _, rfl, iteF ?_⟩
        refine ⟨_, rfl, zr, ys, rfl, .inr (SqT.of ezr), fun z4 hz4 => ?_⟩
        have T8 : Same H7 (upd H7 z4 (.lst ys)) := new_same hz4
        have ez4 : (upd H7 z4 (.lst ys)) z4 = some (.lst ys) := upd_same
        generalize upd H7 z4 (.lst ys) = H8 at T8 ez4
        have S8 := S7.trans T8
        have T18 : Same H1 H8 := (((((T2.trans T3).trans T4).trans T5).trans T6).trans T7).trans T8
        have uj := List.getElem?_eq_getElem (l := us) (i := j) (by have := T1.2.1; omega)
        generalize us[j]'(by have := T1.2.1; omega) = ua at uj
        obtain ⟨_, eu⟩ := T1.2.2 j ua uj
        have ujr : (us.map V.ref)[j]? = some (.ref ua) := by rw [List.getElem?_map, uj]; rfl
        refine ⟨_, rfl, lb, _, rfl, .inl (SqL.of (S8 _ _ elb)), _, rfl, by omega, by omega, fun D2 hD2 => ?_⟩
        refine lc_range (lo := 0) (n := (is.map V.int).length) (fun i H9 => Same H8 H9 ∧ H8 D2 = none ∧ H9 D2 = some (.lst ((((List.range i).filter (fun i => decide (i ≠ j))).map fun i => lcell ns tss j i).map V.int))) ⟨new_same hD2, hD2, upd_same⟩ ?_ ?_
        · rintro i H9 hi ⟨T9, D0', eD2⟩
          have e1 : (0 + ((i : Nat) : Int)) = ((i : Nat) : Int) := by omega
          rw [e1]
          refine ⟨rfl, ?_⟩
          refine ⟨_, rfl, _, rfl, rfl, _, rfl, ?_⟩
          have nx : List.range (i + 1) = List.range i ++ [i] := List.range_succ
          by_cases ne : i = j
          · refine if_fa (by rw [decide_eq_true (by rw [ne])]; rfl) ⟨T9, D0', ?_⟩
            rw [nx, List.filter_append, List.filter_cons_of_neg (by simp [ne]), List.filter_nil, List.append_nil]
            exact eD2
          · refine if_tr (by rw [decide_eq_false (fun q => ne (by injection q with q; omega))]; rfl) ?_
            refine ⟨_, rfl, _, rfl, _, _, _, _, rfl, rfl, SqL.of (T9 _ _ (T18 _ _ T1.1)), at_of (j := j) rfl ujr, _, rfl, _, _, _, _, rfl, rfl, SqL.of (T9 _ _ (T18 _ _ eu)), at_of (j := i) (v := .int (lcell ns tss j i)) rfl (by rw [List.getElem?_map, List.getElem?_range (by omega)]; rfl), ?_⟩
            refine ⟨_, eD2, ?_, fun o u eo => ?_, D0', ?_⟩
            · rw [List.length_map, List.length_map]
              have := List.length_filter_le (fun i => decide (i ≠ j)) (List.range i)
              rw [List.length_range] at this
              exact small1000 (by omega)
            · rw [upd_ne (ne_of_none eo D0')]
              exact T9 _ _ eo
            · rw [upd_same, nx, List.filter_append, List.filter_cons_of_pos (by simp [ne]), List.filter_nil, List.map_append, List.map_append]
              rfl
        rintro H9 ⟨T9, D0', eD2⟩
        rw [il] at eD2
        have hys : ys = (((List.range is.length).filter (fun i => decide (i ≠ j))).map fun i => lcell ns tss j i).map V.int := row_list R (by omega) hji ro
        have S9 := S8.trans T9
        rw [hys] at ez4
        refine ⟨_, _, .lst (SqL.of (T9 _ _ ez4)) (dp_ints _), .lst (SqL.of eD2) (dp_ints _), shaped_li _, shaped_li _, _, rfl, if_fa (by rw [eqv_li]; simp) ?_⟩
        -- the ties, every so many
        have m0 : 0 ≤ ((j : Nat) : Int).fmod 1 := by rw [Int.fmod_eq_emod_of_nonneg _ (by decide)]; omega
        have m1 : ((j : Nat) : Int).fmod 1 ≤ 7 := by rw [Int.fmod_eq_emod_of_nonneg _ (by decide)]; omega
        obtain ⟨rg, rgk⟩ := rg1 (a := ((j : Nat) : Int).fmod 1) (b := ((is.map V.int).length : Nat)) m0 (by omega) (by omega) (by omega)
        have S10 := S9
        refine ⟨_, rfl, _, rfl, _, _, rfl, rfl, (show (1 : Int) ≠ 0 by decide), _, rfl, lb, _, rfl, .inl (SqL.of (S9 _ _ elb)), _, rfl, _, _, _, _, rfl, rg, for_rangeC (lo := ((j : Nat) : Int).fmod 1) (c := 1) (n := turns (((j : Nat) : Int).fmod 1) ((is.map V.int).length : Nat) 1) (fun i σ H10 => ∃ v8 : Option V, σ = [some (.ref x), some (.ref b), some (.ref lb), some (.ref l), some (.ref z), some (.int 1), some (.int ((j : Nat) : Int)), some (.ref zr), v8, none] ∧ Same H9 H10)
          ⟨_, rfl, Same.refl _⟩ ?_ ?_⟩
        · rintro i σ H10 hi ⟨v8, rfl, T10⟩
          have lt := rgk i hi
          obtain ⟨i', ei⟩ : ∃ i' : Nat, ((j : Nat) : Int).fmod 1 + (i : Nat) * 1 = ((i' : Nat) : Int) := ⟨(((j : Nat) : Int).fmod 1 + (i : Nat) * 1).toNat, by omega⟩
          rw [ei] at lt ⊢
          have hi' : i' < is.length := by omega
          have S11 := S9.trans T10
          have T1' := (T18.trans T9).trans T10
          have ii := List.getElem?_eq_getElem hi'
          have li := ints_at ii
          have sti := seat_at asc ii
          generalize is[i'] = n' at ii li sti
          have ui := List.getElem?_eq_getElem (l := us) (i := i') (by have := T1.2.1; omega)
          generalize us[i']'(by have := T1.2.1; omega) = ub at ui
          obtain ⟨_, eui⟩ := T1.2.2 i' ub ui
          have uir : (us.map V.ref)[i']? = some (.ref ub) := by rw [List.getElem?_map, ui]; rfl
          have cji : ((List.range tss.length).map fun b => V.int (lcell ns tss j b))[i']? = some (.int (lcell ns tss j i')) := by rw [List.getElem?_map, List.getElem?_range (by omega)]; rfl
          have cij : ((List.range tss.length).map fun b => V.int (lcell ns tss i' b))[j]? = some (.int (lcell ns tss i' j)) := by rw [List.getElem?_map, List.getElem?_range (by omega)]; rfl
          refine ⟨_, rfl, _, rfl, rfl, _, rfl, ?_⟩
          by_cases ne : i' = j
          · refine if_fa (by rw [decide_eq_true (by rw [ne])]; rfl) ?_
            refine ⟨_, rfl, _, rfl, rfl, _, rfl, ?_⟩
            exact if_fa (by rw [decide_eq_true (by rw [ne])]; rfl) ⟨_, rfl, T10⟩
          · have nd : (!decide (V.int ((i' : Nat) : Int) = V.int ((j : Nat) : Int))) = true := by rw [decide_eq_false (fun q => ne (by injection q with q; omega))]; rfl
            refine if_tr nd ?_
            refine ⟨_, rfl, _, rfl, _, rfl, _, _, _, _, rfl, rfl, SqL.of (S11 _ _ elb), at_of (j := j) rfl lj, _, rfl, _, rfl, _, _, _, _, rfl, rfl, SqL.of (S11 _ _ elb), at_of (j := i') rfl li, x, ns, is, tss, .int n, .int n', rfl, hC.keep S11, rfl, rfl, fun H12 zt T12 _ ezt => ?_⟩
            rw [toldW_tie stj sti (fun q => ne q.symm)] at ezt
            have T1'' := T1'.trans T12
            refine ⟨_, rfl, _, rfl, _, _, _, _, rfl, rfl, SqL.of (T1'' _ _ T1.1), at_of (j := j) rfl ujr, _, rfl, _, _, _, _, rfl, rfl, SqL.of (T1'' _ _ eu), at_of (j := i') rfl cji, (by show 2 ≤ sizeLine; decide), fun zp hzp => ?_⟩
            have T13 : Same H12 (upd H12 zp (.tup [.str "tie", .int (lcell ns tss j i')])) := new_same hzp
            have ezp : (upd H12 zp (.tup [.str "tie", .int (lcell ns tss j i')])) zp = some (.tup [.str "tie", .int (lcell ns tss j i')]) := upd_same
            generalize upd H12 zp (.tup [.str "tie", .int (lcell ns tss j i')]) = H13 at T13 ezp
            have S13 := (S11.trans T12).trans T13
            have U13 := T1''.trans T13
            refine ⟨.inr ⟨zt, zp, _, rfl, rfl, SqT.of (T13 _ _ ezt), SqT.of ezp, fun y hy => ?_⟩, _, rfl, iteF ?_⟩
            · simp only [List.mem_cons, List.not_mem_nil, or_false] at hy
              rcases hy with rfl | rfl <;> rfl
            obtain ⟨l0, lb'⟩ := lcell_back gb R (a := j) (b := i') (by omega) (by omega) (fun q => ne q.symm)
            refine ⟨_, rfl, _, rfl, rfl, _, rfl, if_tr nd ?_⟩
            refine ⟨_, rfl, _, rfl, _, _, _, _, rfl, rfl, SqL.of (U13 _ _ T1.1), at_of (j := i') rfl uir, _, rfl, _, _, _, _, rfl, rfl, SqL.of (U13 _ _ eui), at_of (j := j) rfl cij, ?_⟩
            refine ⟨_, rfl, _, rfl, _, rfl, _, _, _, _, rfl, rfl, SqL.of (U13 _ _ T1.1), at_of (j := j) rfl ujr, _, rfl, _, _, _, _, rfl, rfl, SqL.of (U13 _ _ eu), at_of (j := i') rfl cji, _, _, _, _, rfl, rfl, SqL.of (S13 _ _ eb), at_of (j := (lcell ns tss j i').toNat) (by omega) (ints_at lb'), rfl, _, rfl, if_fa (by simp) ⟨_, rfl, (T10.trans T12).trans T13⟩⟩
        · rintro σ H10 ⟨v8, rfl, T10⟩
          exact ⟨_, _, _, rfl, ((((T5.trans T6).trans T7).trans T8).trans T9).trans T10⟩
      · rintro σ H5 ⟨v6, v7, v8, rfl, T5⟩
        exact k _ (S4.trans T5)
    · refine ⟨_, rfl, lb, _, rfl, .inl (SqL.of (S4 _ _ elb)), _, rfl, by omega, by omega, for_range (lo := 0) (n := (is.map V.int).length) (fun j σ H5 => ∃ v6 v7 v8 : Option V, σ = [some (.ref x), some (.ref b), some (.ref lb), some (.ref l), some (.ref z), some (.int 7), v6, v7, v8, none] ∧ Same H4 H5)
        ⟨none, none, none, rfl, Same.refl _⟩ ?_ ?_⟩
      · rintro j σ H5 hj ⟨v6, v7, v8, rfl, T5⟩
        have e0 : (0 + ((j : Nat) : Int)) = ((j : Nat) : Int) := by omega
        rw [e0]
        have S5 := S4.trans T5
        have hji : j < is.length := by omega
        have ij := List.getElem?_eq_getElem hji
        have lj := ints_at ij
        have stj := seat_at asc ij
        generalize is[j] = n at ij lj stj
        have tj := List.getElem?_eq_getElem (l := tss) (i := j) (by omega)
        generalize tss[j]'(by omega) = ts at tj
        have qj := List.getElem?_eq_getElem (l := qs) (i := j) (by have := a4.2.1; omega)
        generalize qs[j]'(by have := a4.2.1; omega) = qa at qj
        obtain ⟨eq, _, _⟩ := a4.2.2 j qa ts qj tj
        have pj := List.getElem?_eq_getElem (l := ps) (i := j) (by have := L.2.1; omega)
        generalize ps[j]'(by have := L.2.1; omega) = pa at pj
        obtain ⟨_, ep⟩ := L.2.2 j pa ts pj tj
        have qjr : (qs.map V.ref)[j]? = some (.ref qa) := by rw [List.getElem?_map, qj]; rfl
        have pjr : (ps.map V.ref)[j]? = some (.ref pa) := by rw [List.getElem?_map, pj]; rfl
        refine ⟨_, rfl, x, CC, dx, _, _, rfl, S5 _ _ a1, c.cl, c.nR, cf_rows _ _ _ _ _, _, rfl, _, _, _, _, rfl, rfl, SqT.of (S5 _ _ a4.1), at_of (j := j) rfl qjr, _, _, _, _, true, rfl, .ty "tuple", .base (.tup (S5 _ _ eq)), kit_ty kt_tuple_tuple, _, rfl, iteF ?_⟩
        refine ⟨_, rfl, x, CC, dx, _, _, rfl, S5 _ _ a1, c.cl, c.nR, cf_rows _ _ _ _ _, _, rfl, _, _, _, _, rfl, rfl, SqT.of (S5 _ _ a4.1), at_of (j := j) rfl qjr, qa, _, rfl, .inr (SqT.of (S5 _ _ eq)), fun z3 hz3 => ?_⟩
        have T6 : Same H5 (upd H5 z3 (.lst (ts.map V.int))) := new_same hz3
        have ez3 : (upd H5 z3 (.lst (ts.map V.int))) z3 = some (.lst (ts.map V.int)) := upd_same
        generalize upd H5 z3 (.lst (ts.map V.int)) = H6 at T6 ez3
        have S6 := S5.trans T6
        refine ⟨_, rfl, _, rfl, _, _, _, _, rfl, rfl, SqL.of (S6 _ _ L.1), at_of (j := j) rfl pjr, _, _, .lst (SqL.of ez3) (dp_ints ts), .lst (SqL.of (S6 _ _ ep)) (dp_ints ts), shaped_li ts, shaped_li ts, _, rfl, if_fa (by rw [eqv_li]; simp) ?_⟩
        refine ⟨_, rfl, _, rfl, _, _, _, _, rfl, rfl, SqL.of (S6 _ _ elb), at_of (j := j) rfl lj, _, rfl, x, dx, _, rfl, S6 _ _ a1, ⟨x, ns, is, tss, .int n, .sc (.int n), rfl, hC.keep S6, ⟨rfl, rfl⟩, _, rfl, _, rfl, ?_⟩⟩
        rw [stj]
        refine iteF ?_
        -- his row
        refine ⟨_, rfl, x, dx, _, rfl, S6 _ _ a1, cfl, _, rfl, _, rfl, _, _, _, _, rfl, rfl, SqL.of (S6 _ _ elb), at_of (j := j) rfl lj, x, ns, is, tss, .int n, .sc (.int n), rfl, hC.keep S6, ⟨rfl, rfl⟩, (fun e => by rw [stj] at e; cases e), fun j' ej' H7 zr ys T7 ezr ro => ?_⟩
        obtain rfl : j = j' := by rw [stj] at ej'; exact Option.some.inj ej'
        have S7 := S6.trans T7
        refine ⟨_, rfl, _, _, _, _, true, rfl, .ty "tuple", .base (.tup ezr), kit_ty kt_tuple_tuple, _, rfl, iteF ?_⟩
        refine ⟨_, rfl, zr, ys, rfl, .inr (SqT.of ezr), fun z4 hz4 => ?_⟩
        have T8 : Same H7 (upd H7 z4 (.lst ys)) := new_same hz4
        have ez4 : (upd H7 z4 (.lst ys)) z4 = some (.lst ys) := upd_same
        generalize upd H7 z4 (.lst ys) = H8 at T8 ez4
        have S8 := S7.trans T8
        have T18 : Same H1 H8 := (((((T2.trans T3).trans T4).trans T5).trans T6).trans T7).trans T8
        have uj := List.getElem?_eq_getElem (l := us) (i := j) (by have := T1.2.1; omega)
        generalize us[j]'(by have := T1.2.1; omega) = ua at uj
        obtain ⟨_, eu⟩ := T1.2.2 j ua uj
        have ujr : (us.map V.ref)[j]? = some (.ref ua) := by rw [List.getElem?_map, uj]; rfl
        refine ⟨_, rfl, lb, _, rfl, .inl (SqL.of (S8 _ _ elb)), _, rfl, by omega, by omega, fun D2 hD2 => ?_⟩
        refine lc_range (lo := 0) (n := (is.map V.int).length) (fun i H9 => Same H8 H9 ∧ H8 D2 = none ∧ H9 D2 = some (.lst ((((List.range i).filter (fun i => decide (i ≠ j))).map fun i => lcell ns tss j i).map V.int))) ⟨new_same hD2, hD2, upd_same⟩ ?_ ?_
        · rintro i H9 hi ⟨T9, D0', eD2⟩
          have e1 : (0 + ((i : Nat) : Int)) = ((i : Nat) : Int) := by omega
          rw [e1]
          refine ⟨rfl, ?_⟩
          refine ⟨_, rfl, _, rfl, rfl, _, rfl, ?_⟩
          have nx : List.range (i + 1) = List.range i ++ [i] := List.range_succ
          by_cases ne : i = j
          · refine if_fa (by rw [decide_eq_true (by rw [ne])]; rfl) ⟨T9, D0', ?_⟩
            rw [nx, List.filter_append, List.filter_cons_of_neg (by simp [ne]), List.filter_nil, List.append_nil]
            exact eD2
          · refine if_tr (by rw [decide_eq_false (fun q => ne (by injection q with q; omega))]; rfl) ?_
            refine ⟨_, rfl, _, rfl, _, _, _, _, rfl, rfl, SqL.of (T9 _ _ (T18 _ _ T1.1)), at_of (j := j) rfl ujr, _, rfl, _, _, _, _, rfl, rfl, SqL.of (T9 _ _ (T18 _ _ eu)), at_of (j := i) (v := .int (lcell ns tss j i)) rfl (by rw [List.getElem?_map, List.getElem?_range (by omega)]; rfl), ?_⟩
            refine ⟨_, eD2, ?_, fun o u eo => ?_, D0', ?_⟩
            · rw [List.length_map, List.length_map]
              have := List.length_filter_le (fun i => decide (i ≠ j)) (List.range i)
              rw [List.length_range] at this
              exact small1000 (by omega)
            · rw [upd_ne (ne_of_none eo D0')]
              exact T9 _ _ eo
            · rw [upd_same, nx, List.filter_append, List.filter_cons_of_pos (by simp [ne]), List.filter_nil, List.map_append, List.map_append]
              rfl
        rintro H9 ⟨T9, D0', eD2⟩
        rw [il] at eD2
        have hys : ys = (((List.range is.length).filter (fun i => decide (i ≠ j))).map fun i => lcell ns tss j i).map V.int := row_list R (by omega) hji ro
        have S9 := S8.trans T9
        rw [hys] at ez4
        refine ⟨_, _, .lst (SqL.of (T9 _ _ ez4)) (dp_ints _), .lst (SqL.of eD2) (dp_ints _), shaped_li _, shaped_li _, _, rfl, if_fa (by rw [eqv_li]; simp) ?_⟩
        -- the ties, every so many
        have m0 : 0 ≤ ((j : Nat) : Int).fmod 7 := by rw [Int.fmod_eq_emod_of_nonneg _ (by decide)]; omega
        have m1 : ((j : Nat) : Int).fmod 7 ≤ 7 := by rw [Int.fmod_eq_emod_of_nonneg _ (by decide)]; omega
        obtain ⟨rg, rgk⟩ := rg7 (a := ((j : Nat) : Int).fmod 7) (b := ((is.map V.int).length : Nat)) m0 (by omega) (by omega) (by omega)
        have S10 := S9
        refine ⟨_, rfl, _, rfl, _, _, rfl, rfl, (show (7 : Int) ≠ 0 by decide), _, rfl, lb, _, rfl, .inl (SqL.of (S9 _ _ elb)), _, rfl, _, _, _, _, rfl, rg, for_rangeC (lo := ((j : Nat) : Int).fmod 7) (c := 7) (n := turns (((j : Nat) : Int).fmod 7) ((is.map V.int).length : Nat) 7) (fun i σ H10 => ∃ v8 : Option V, σ = [some (.ref x), some (.ref b), some (.ref lb), some (.ref l), some (.ref z), some (.int 7), some (.int ((j : Nat) : Int)), some (.ref zr), v8, none] ∧ Same H9 H10)
          ⟨_, rfl, Same.refl _⟩ ?_ ?_⟩
        · rintro i σ H10 hi ⟨v8, rfl, T10⟩
          have lt := rgk i hi
          obtain ⟨i', ei⟩ : ∃ i' : Nat, ((j : Nat) : Int).fmod 7 + (i : Nat) * 7 = ((i' : Nat) : Int) := ⟨(((j : Nat) : Int).fmod 7 + (i : Nat) * 7).toNat, by omega⟩
          rw [ei] at lt ⊢
          have hi' : i' < is.length := by omega
          have S11 := S9.trans T10
          have T1' := (T18.trans T9).trans T10
          have ii := List.getElem?_eq_getElem hi'
          have li := ints_at ii
          have sti := seat_at asc ii
          generalize is[i'] = n' at ii li sti
          have ui := List.getElem?_eq_getElem (l := us) (i := i') (by have := T1.2.1; omega)
          generalize us[i']'(by have := T1.2.1; omega) = ub at ui
          obtain ⟨_, eui⟩ := T1.2.2 i' ub ui
          have uir : (us.map V.ref)[i']? = some (.ref ub) := by rw [List.getElem?_map, ui]; rfl
          have cji : ((List.range tss.length).map fun b => V.int (lcell ns tss j b))[i']? = some (.int (lcell ns tss j i')) := by rw [List.getElem?_map, List.getElem?_range (by omega)]; rfl
          have cij : ((List.range tss.length).map fun b => V.int (lcell ns tss i' b))[j]? = some (.int (lcell ns tss i' j)) := by rw [List.getElem?_map, List.getElem?_range (by omega)]; rfl
          refine ⟨_, rfl, _, rfl, rfl, _, rfl, ?_⟩
          by_cases ne : i' = j
          · refine if_fa (by rw [decide_eq_true (by rw [ne])]; rfl) ?_
            refine ⟨_, rfl, _, rfl, rfl, _, rfl, ?_⟩
            exact if_fa (by rw [decide_eq_true (by rw [ne])]; rfl) ⟨_, rfl, T10⟩
          · have nd : (!decide (V.int ((i' : Nat) : Int) = V.int ((j : Nat) : Int))) = true := by rw [decide_eq_false (fun q => ne (by injection q with q; omega))]; rfl
            refine if_tr nd ?_
            refine ⟨_, rfl, _, rfl, _, rfl, _, _, _, _, rfl, rfl, SqL.of (S11 _ _ elb), at_of (j := j) rfl lj, _, rfl, _, rfl, _, _, _, _, rfl, rfl, SqL.of (S11 _ _ elb), at_of (j := i') rfl li, x, ns, is, tss, .int n, .int n', rfl, hC.keep S11, rfl, rfl, fun H12 zt T12 _ ezt => ?_⟩
            rw [toldW_tie stj sti (fun q => ne q.symm)] at ezt
            have T1'' := T1'.trans T12
            refine ⟨_, rfl, _, rfl, _, _, _, _, rfl, rfl, SqL.of (T1'' _ _ T1.1), at_of (j := j) rfl ujr, _, rfl, _, _, _, _, rfl, rfl, SqL.of (T1'' _ _ eu), at_of (j := i') rfl cji, (by show 2 ≤ sizeLine; decide), fun zp hzp => ?_⟩
            have T13 : Same H12 (upd H12 zp (.tup [.str "tie", .int (lcell ns tss j i')])) := new_same hzp
            have ezp : (upd H12 zp (.tup [.str "tie", .int (lcell ns tss j i')])) zp = some (.tup [.str "tie", .int (lcell ns tss j i')]) := upd_same
            generalize upd H12 zp (.tup [.str "tie", .int (lcell ns tss j i')]) = H13 at T13 ezp
            have S13 := (S11.trans T12).trans T13
            have U13 := T1''.trans T13
            refine ⟨.inr ⟨zt, zp, _, rfl, rfl, SqT.of (T13 _ _ ezt), SqT.of ezp, fun y hy => ?_⟩, _, rfl, iteF ?_⟩
            · simp only [List.mem_cons, List.not_mem_nil, or_false] at hy
              rcases hy with rfl | rfl <;> rfl
            obtain ⟨l0, lb'⟩ := lcell_back gb R (a := j) (b := i') (by omega) (by omega) (fun q => ne q.symm)
            refine ⟨_, rfl, _, rfl, rfl, _, rfl, if_tr nd ?_⟩
            refine ⟨_, rfl, _, rfl, _, _, _, _, rfl, rfl, SqL.of (U13 _ _ T1.1), at_of (j := i') rfl uir, _, rfl, _, _, _, _, rfl, rfl, SqL.of (U13 _ _ eui), at_of (j := j) rfl cij, ?_⟩
            refine ⟨_, rfl, _, rfl, _, rfl, _, _, _, _, rfl, rfl, SqL.of (U13 _ _ T1.1), at_of (j := j) rfl ujr, _, rfl, _, _, _, _, rfl, rfl, SqL.of (U13 _ _ eu), at_of (j := i') rfl cji, _, _, _, _, rfl, rfl, SqL.of (S13 _ _ eb), at_of (j := (lcell ns tss j i').toNat) (by omega) (ints_at lb'), rfl, _, rfl, if_fa (by simp) ⟨_, rfl, (T10.trans T12).trans T13⟩⟩
        · rintro σ H10 ⟨v8, rfl, T10⟩
          exact ⟨_, _, _, rfl, ((((T5.trans T6).trans T7).trans T8).trans T9).trans T10⟩
      · rintro σ H5 ⟨v6, v7, v8, rfl, T5⟩
        exact k _ (S4.trans T5)
end
end J

set_option Elab.async false
set_option linter.all false
set_option maxRecDepth 100000
set_option maxHeartbeats 4000000
namespace J
open PySem PySem.Spec PyProof.Rows L2
/-! ### repr of a bool, of None, of a text -/
def rp : V → Str
  | .bl b => if b then "True" else "False"
  | .non => "None"
  | .str x => reprText x
  | _ => ""
def rOk : V → Prop
  | .bl _ => True
  | .non => True
  | .str y => (reprText y).length ≤ sizeLine
  | _ => False
def rRepr : List V → Hp → VK → Prop := fun xs H Q => ∃ x, xs = [x] ∧ rOk x ∧ Q (.str (rp x)) H
theorem call_reprV {X : Cx} : CallR X (.builtin "repr") rRepr := by
  intro pins s σ H xs us Q I r h
  obtain ⟨x, rfl, hx, q⟩ := h
  obtain ⟨u, rfl, ru⟩ := vals1 r
  cases x with
  | bl b =>
    cases (show u = Value.bool b from ru)
    exact PySem.P.repr_of_bool ⟨.str _, H, I.tok _, ⟨_, rfl⟩, q⟩
  | non =>
    cases (show u = Value.none from ru)
    exact PySem.P.repr_of_none ⟨.str _, H, I.tok _, ⟨_, rfl⟩, q⟩
  | str y =>
    obtain ⟨t, rfl⟩ := ru
    exact PySem.P.repr_of_str ⟨.str _, H, I.tok _, ⟨_, rfl⟩, q⟩ hx
  | _ => exact False.elim hx
/-! ### == of two lists that are equal; == [] -/
def rEqL (K : PySem.W.Frag) : R2 := fun x y H Q => ∃ a b xs ys, x = .ref a ∧ y = .ref b ∧ SqL K H a xs ∧ SqL K H b ys ∧ Paired (SameV K H) xs ys ∧ Q (.bl true) H
theorem op_eqL {X : Cx} (hu : X.A.units + 64 < cLine) : OpR X (compareOp .Eq) (rEqL X.K) := by
  intro pins s σ H x y v u Q I rx ry ⟨a, b, xs, ys, ex, ey, ha, hb, hp, q⟩
  subst ex
  subst ey
  obtain rfl : v = Value.ref a := rx
  obtain rfl : u = Value.ref b := ry
  obtain ⟨us, r1, p1, _⟩ := I.list ha
  obtain ⟨ws, r2, p2, _⟩ := I.list hb
  have l1 := r1.length
  have l2 := r2.length
  have l3 := Paired.length hp
  have hsz : us.toArray.size = ws.toArray.size := by simp; omega
  have he : ∀ j (h1 : j < us.toArray.size) (h2 : j < ws.toArray.size), SeqAt.EqAt X.A.in1 s us.toArray[j] ws.toArray[j] true := fun j h1 h2 => by
    have j1 : j < us.length := by simpa using h1
    have j2 : j < ws.length := by simpa using h2
    have jx : j < xs.length := by omega
    have jy : j < ys.length := by omega
    obtain ⟨z, ez, rz⟩ := r1.get (List.getElem?_eq_getElem jx)
    obtain ⟨t, et, rt⟩ := r2.get (List.getElem?_eq_getElem jy)
    have e1 : us.toArray[j] = z := by
      have := List.getElem?_eq_getElem j1
      rw [ez] at this
      simpa using (Option.some.inj this).symm
    have e2 : ws.toArray[j] = t := by
      have := List.getElem?_eq_getElem j2
      rw [et] at this
      simpa using (Option.some.inj this).symm
    rw [e1, e2]
    exact same_run I (A := X.A.in1) (by show X.A.units + 1 + 1 < cLine; omega) (paired_at hp j jx jy) rz rt
  have k := SeqAt.RcAt.lists (A := X.A) (e := fun _ => true) p1.isList p2.isList hsz (by omega) he
  refine k X.prog X.w _ _ ?_
  rw [show ((List.range us.toArray.size).all fun _ => true) = true from List.all_eq_true.mpr fun _ _ => rfl]
  exact ⟨.bl true, H, I, rfl, q⟩
def rEqE (K : PySem.W.Frag) : R2 := fun x y H Q => ∃ a b xs, x = .ref a ∧ y = .ref b ∧ SqL K H a xs ∧ SqL K H b [] ∧ Q (.bl xs.isEmpty) H
theorem op_eqE {X : Cx} (hu : X.A.units + 64 < cLine) : OpR X (compareOp .Eq) (rEqE X.K) := by
  intro pins s σ H x y v u Q I rx ry ⟨a, b, xs, ex, ey, ha, hb, q⟩
  subst ex
  subst ey
  obtain rfl : v = Value.ref a := rx
  obtain rfl : u = Value.ref b := ry
  obtain ⟨us, r1, p1, _⟩ := I.list ha
  obtain ⟨ws, r2, p2, _⟩ := I.list hb
  have l1 := r1.length
  have l2 : 0 = ws.length := r2.length
  cases xs with
  | nil =>
    have l1 : 0 = us.length := l1
    have k := SeqAt.RcAt.lists (A := X.A) (e := fun _ => true) p1.isList p2.isList (by simp; omega) (by omega) (fun j h1 h2 => absurd h1 (by simp; omega))
    refine k X.prog X.w _ _ ?_
    rw [show ((List.range us.toArray.size).all fun _ => true) = true from List.all_eq_true.mpr fun _ _ => rfl]
    exact ⟨.bl true, H, I, rfl, q⟩
  | cons x xs =>
    have l1 : xs.length + 1 = us.length := l1
    have k := SeqAt.RcAt.lists_lengths (A := X.A) p1.isList p2.isList (by simp; omega) (by omega)
    exact k X.prog X.w _ _ ⟨.bl false, H, I, rfl, q⟩
/-- a company stands while the hand is drawn from -/
theorem CompAt.but {C CC h : Addr} {H H' : Hp} {x : Addr} {ns is : List Int} {tss : List (List Int)} {ys : List V} (c : CompAt C CC H x ns is tss) (eh : H h = some (.lst ys)) (B : But h H H') : CompAt C CC H' x ns is tss := by
  obtain ⟨dx, t, g, r, b, p, ps, kvs, a1, ⟨d1, tb, w1, w2⟩, a3, ⟨r1, r2, r3⟩, ⟨us, u1, u2, u3⟩, a6, a7⟩ := c
  have one : ∀ {a : Addr} {o : HO}, H a = some o → (∀ zs, o ≠ .lst zs) → H' a = some o := fun {a o} e n => B _ _ (ne_of e eh (n ys)) e
  refine ⟨dx, t, g, r, b, p, ps, kvs, one a1 (fun _ z => by cases z), ⟨d1, tb, one w1 (fun _ z => by cases z), one w2 (fun _ z => by cases z)⟩, one a3 (fun _ z => by cases z), ⟨one r1 (fun _ z => by cases z), r2, fun j a ts e1 e2 => ?_⟩, ⟨us, one u1 (fun _ z => by cases z), u2, fun a u e => ?_⟩, one a6 (fun _ z => by cases z), a7⟩
  · obtain ⟨q1, q2⟩ := r3 j a ts e1 e2
    exact ⟨one q1 (fun _ z => by cases z), q2⟩
  · obtain ⟨xs, q1, q2⟩ := u3 a u e
    exact ⟨xs, one q1 (fun _ z => by cases z), q2⟩
abbrev s_Lpick : Stmt := top 27
theorem sc_Lpick : FnScope ["_law_hand_here", "_law_things"] ["_law_hand_here", "_law_things"] (defScope s_Lpick) := ⟨rfl, rfl, rfl, by decide +kernel, rfl, by decide +kernel, by decide +kernel⟩
def spPick : Sp := fun vs H Q _ => ∃ (h q l : Addr) (xs : List V), vs = [.ref h, .ref l] ∧ Hand H h q ∧ l ≠ h ∧ H l = some (.lst xs) ∧ 0 < xs.length ∧ xs.length ≤ 1000 ∧ ∀ (H' : Hp) (y : V), y ∈ xs → But h H H' → Hand H' h q → Q y H'
section
variable {P : Program} {w : World} {K : PySem.W.Frag} {mg : Str → Option Value} {base : Heap}
theorem ok_Lpick {f fD : Addr} {fd fdD : FuncData} (F : Fun K "_law_pick" "_law_pick" s_Lpick f fd) (nl : mg "len" = none) (GD : Cal P w K mg base CX0 2 "_law_draw" fD fdD ["_law_hand_here", "_law_many"] spDraw) : FnOk P w K mg base CX0 3 f fd ["_law_hand_here", "_law_things"] spPick := by
  refine F.ok sc_Lpick (fun vs H Q E h => ?_) (fun cdv A outer s H vs Q E hr h => ?_)
  · obtain ⟨h, q, l, xs, rfl, _⟩ := h
    rfl
  · obtain ⟨h, q, l, xs, rfl, hh, nlh, el, g0, g1, k⟩ := h
    refine ⟨_, (pss_one (ps_ret (pe_ix ix_list (pv 1) (pcal GD hr pass0 (pa_cons (pv 0) (pa_cons (pe_callB call_len_seq (by rfl) nl PySem.boot_len (pa_cons (pv 1) pa_nil)) pa_nil))) (fun _ _ => rfl)))), ?_⟩
    refine ⟨_, rfl, _, rfl, _, rfl, l, xs, rfl, .inl (SqL.of el), h, q, _, rfl, by omega, by omega, hh, fun v H1 v0 v1 b1 h1 => ?_⟩
    have hv : v.toNat < xs.length := by omega
    exact ⟨l, xs, v, xs[v.toNat], rfl, rfl, SqL.of (b1 _ _ nlh el), at_of (j := v.toNat) (by omega) (List.getElem?_eq_getElem hv), k H1 _ (List.getElem_mem hv) b1 h1⟩
end
end J

set_option Elab.async false
set_option linter.all false
set_option maxRecDepth 100000
set_option maxHeartbeats 4000000
namespace J
open PySem PySem.Spec PyProof.Rows L2
def rNeE (K : PySem.W.Frag) : R2 := fun x y H Q => ∃ a b xs, x = .ref a ∧ y = .ref b ∧ SqL K H a xs ∧ SqL K H b [] ∧ Q (.bl (!xs.isEmpty)) H
theorem op_neE {X : Cx} (hu : X.A.units + 64 < cLine) : OpR X (compareOp .NotEq) (rNeE X.K) := by
  intro pins s σ H x y v u Q I rx ry ⟨a, b, xs, ex, ey, ha, hb, q⟩
  subst ex
  subst ey
  obtain rfl : v = Value.ref a := rx
  obtain rfl : u = Value.ref b := ry
  obtain ⟨us, r1, p1, _⟩ := I.list ha
  obtain ⟨ws, r2, p2, _⟩ := I.list hb
  have l1 := r1.length
  have l2 : 0 = ws.length := r2.length
  cases xs with
  | nil =>
    have l1 : 0 = us.length := l1
    have k := SeqAt.RcNeAt.lists (A := X.A) (e := fun _ => true) p1.isList p2.isList (by simp; omega) (by omega) (fun j h1 h2 => absurd h1 (by simp; omega))
    refine k X.prog X.w _ _ ?_
    rw [show ((List.range us.toArray.size).all fun _ => true) = true from List.all_eq_true.mpr fun _ _ => rfl]
    exact ⟨.bl false, H, I, rfl, q⟩
  | cons x xs =>
    have l1 : xs.length + 1 = us.length := l1
    have k := SeqAt.RcNeAt.lists_lengths (A := X.A) p1.isList p2.isList (by simp; omega) (by omega)
    exact k X.prog X.w _ _ ⟨.bl true, H, I, rfl, q⟩

theorem inV_ints (m : Int) : ∀ is : List Int, inV (.int m) (is.map V.int) = decide (m ∈ is)
  | [] => by simp [inV]
  | a :: l => by
    have ih := inV_ints m l
    show ((a == m) || inV (.int m) (l.map V.int)) = _
    rw [ih]
    by_cases h : a = m
    · simp [h]
    · have h' : ¬ m = a := fun e => h e.symm
      simp [h, h']
theorem flat_all : ∀ is : List Int, (is.map V.int).all flatV = true
  | [] => rfl
  | a :: l => by rw [List.map_cons, List.all_cons, flat_all l]; rfl
theorem CompAt.le60 {C CC x : Addr} {H : Hp} {ns is : List Int} {tss : List (List Int)} (h : CompAt C CC H x ns is tss) : is.length ≤ 60 := by
  obtain ⟨_, _, _, _, _, _, _, _, _, _, _, _, _, _, _, _, _, q, _⟩ := h
  exact q
theorem CompAt.labs {C CC x : Addr} {H : Hp} {ns is : List Int} {tss : List (List Int)} (h : CompAt C CC H x ns is tss) : ∀ n ∈ is, 0 ≤ n ∧ n ≤ 1000000000 := by
  obtain ⟨_, _, _, _, _, _, _, _, _, _, _, _, _, _, _, _, _, _, q⟩ := h
  exact q
theorem toldW_none {ns is : List Int} {tss : List (List Int)} {v u : V} (e1 : seat is v = none) : toldW ns is tss v u = (("no guest" : Str), v) := by
  unfold toldW
  rw [e1]
theorem toldW_none2 {ns is : List Int} {tss : List (List Int)} {v u : V} {i : Nat} (e1 : seat is v = some i) (e2 : seat is u = none) : toldW ns is tss v u = (("no guest" : Str), u) := by
  unfold toldW
  rw [e1, e2]
abbrev s_Lstr : Stmt := top 35
theorem sc_Lstr : FnScope ["_law_hand_here", "_law_company", "_law_labels_here", "_law_odd", "_law_stranger", "_law_guest", "_law_thing", "_law_told_here", "_law_label", "_law_word"] ["_law_hand_here", "_law_company", "_law_labels_here"] (defScope s_Lstr) := ⟨rfl, rfl, rfl, by decide +kernel, rfl, by decide +kernel, by decide +kernel⟩
def spStr (C CC : Addr) : Sp := fun vs H Q _ => ∃ (h q x lb : Addr) (ns is : List Int) (tss : List (List Int)), vs = [.ref h, .ref x, .ref lb] ∧ Hand H h q ∧ CompAt C CC H x ns is tss ∧ lb ≠ h ∧ H lb = some (.lst (is.map V.int)) ∧ ∀ H', But h H H' → Hand H' h q → Q (.bl true) H'
section
variable {P : Program} {w : World} {K : PySem.W.Frag} {mg : Str → Option Value} {base : Heap}
theorem ok_Lstr {f C CC fP fC fO fR : Addr} {fd fdP fdC fdO fdR : FuncData} (F : Fun K "_law_strangers" "_law_strangers" s_Lstr f fd) (c : CoC K CC) (nrp : mg "repr" = none)
    (GP : Cal P w K mg base CX0 3 "_law_pick" fP fdP ["_law_hand_here", "_law_things"] spPick)
    (FC : FnOk P w K mg base CX0 3 fC fdC ["self", "label"] (spCIn C CC)) (aC : PySem.W.findIn K (.ref CC) "__contains__" = some (some (.ref fC))) (iC : PySem.W.isFn K (.ref fC) = true) (bC : Binds K fdC ["self", "label"] [])
    (GO : Cal P w K mg base CX0 6 "_law_told" fO fdO ["_law_company", "_law_x", "_law_y"] (spTold C CC)) (GRR : Cal P w K mg base CX0 6 "_law_row_refused" fR fdR ["_law_company", "_law_label"] (spRR C CC)) :
    FnOk P w K mg base CX0 7 f fd ["_law_hand_here", "_law_company", "_law_labels_here"] (spStr C CC) := by
  refine F.ok sc_Lstr (fun vs H Q E h => ?_) (fun cdv A outer s H vs Q E hr h => ?_)
  · obtain ⟨h, q, x, lb, ns, is, tss, rfl, _⟩ := h
    rfl
  · obtain ⟨h, q, x, lb, ns, is, tss, rfl, hh, hC, nlb, elb, k⟩ := h
    have hr3 : Room 3 _ := hr.mono (by decide)
    refine ⟨_, (C8.pss_cut 
  (ps_setLc (i := 3) (own := [("_law_label", 8)]) (g := gName 8) rfl sc_Lstr.nd rfl rfl (sw_true rfl rfl rfl (by decide +kernel)) (pi_list (pv 2)) (blkOk_by (own := [("_law_label", 8)]) (N := ["_law_hand_here", "_law_company", "_law_labels_here", "_law_odd", "_law_stranger", "_law_guest", "_law_thing", "_law_told_here", "_law_label", "_law_word"]) (sc := defScope s_Lstr) (by decide +kernel)) (fun _ _ _ _ _ => pg_name (i := 8) sc_Lstr.nd rfl (Or.inl rfl)) (fun _ _ _ _ _ => pts_one (PW.pt (pw_and (pt_cmpR (r := rIn K true) op_notIn_seq (pe_op op_add (pv 8) pe_int) (pv 2) (by rfl)) (pw_and1 (pt_cmpR op_lt (pv 8) (pe_op op_pow pe_int pe_int) (nomark _)))))) (fun _ _ _ _ _ => (pe_op op_add (pv 8) pe_int))) (pss_cons 
  (ps_set (i := 4) sc_Lstr.nd rfl (Or.inl rfl) (pcal GP hr pass0 (pa_cons (pv 0) (pa_cons (pe_op op_cat (pv 3) (pe_lst (pa_cons (pe_un un_neg pe_int) (pa_cons (pe_op op_add (pe_op op_pow pe_int pe_int) pe_int) pa_nil)))) pa_nil)))) (C8.pss_cut 
  (ps_if (PW.pt (pw_and (pt_cmpR op_le pe_int (pv 4) (nomark _)) (pw_and (pt_cmpR op_le (pv 4) (pe_op op_pow pe_int pe_int) (nomark _)) (pw_and1 (pt_cmpR (op_inOwn FC aC iC bC pass0 hr3) (pv 4) (pv 1) (by rfl)))))) (pss_one (ps_ret pe_bl)) pss_nil) (pss_cons 
  (ps_if (pt_cmpR (op_neS hr.units) (pcal GO hr pass0 (pa_cons (pv 1) (pa_cons (pv 4) (pa_cons (pv 4) pa_nil)))) (pe_tup (pa_cons pe_str (pa_cons (pv 4) pa_nil))) (nomark _)) (pss_one (ps_ret pe_bl)) pss_nil) (pss_cons 
  (ps_if (PW.pt (pw_or (pt_not (pt_val (pcal GRR hr pass0 (pa_cons (pv 1) (pa_cons (pv 4) pa_nil))))) (pw_or (pt_not (pt_val (pcal GRR hr pass0 (pa_cons (pv 1) (pa_cons pe_non pa_nil))))) (pw_or1 (pt_not (pt_val (pcal GRR hr pass0 (pa_cons (pv 1) (pa_cons pe_bl pa_nil))))))))) (pss_one (ps_ret pe_bl)) pss_nil) (pss_cons 
  (ps_if (PW.pt (pw_or (pt_cmpR (op_neS hr.units) (pcal GO hr pass0 (pa_cons (pv 1) (pa_cons (pv 4) (pa_cons (pe_un un_neg pe_int) pa_nil)))) (pe_tup (pa_cons pe_str (pa_cons (pv 4) pa_nil))) (nomark _)) (pw_or1 (pt_cmpR (op_neS hr.units) (pcal GO hr pass0 (pa_cons (pv 1) (pa_cons (pe_un un_neg pe_int) (pa_cons (pv 4) pa_nil)))) (pe_tup (pa_cons pe_str (pa_cons (pe_un un_neg pe_int) pa_nil))) (nomark _))))) (pss_one (ps_ret pe_bl)) pss_nil) (pss_cons 
  (ps_if (pt_cmpR (op_eqE hr.units) (pv 2) (pe_lst pa_nil) (nomark _)) (pss_one (ps_ret pe_bl)) pss_nil) (pss_cons 
  (ps_set (i := 5) sc_Lstr.nd rfl (Or.inl rfl) (pcal GP hr pass0 (pa_cons (pv 0) (pa_cons (pv 2) pa_nil)))) (pss_cons 
  (ps_for PassesOwn.never rfl (pi_list (pe_lst (pa_cons pe_bl (pa_cons pe_bl (pa_cons pe_non (pa_cons pe_str pa_nil)))))) (pg_name (i := 6) sc_Lstr.nd rfl (Or.inr rfl)) (pss_cons 
    (ps_set (i := 7) sc_Lstr.nd rfl (Or.inl rfl) (pe_lst (pa_cons (pcal GO hr pass0 (pa_cons (pv 1) (pa_cons (pv 6) (pa_cons (pv 5) pa_nil)))) (pa_cons (pcal GO hr pass0 (pa_cons (pv 1) (pa_cons (pv 5) (pa_cons (pv 6) pa_nil)))) pa_nil)))) (pss_one 
    (ps_if (pt_cmpR (op_neE hr.units) (pe_lc (own := [("_law_word", 9), ("_law_label", 8)]) (g := gTup K 2 (gCons (gName 9) (gCons (gName 8) gNil))) (by rfl) sc_Lstr.nd (pi_list (pv 7)) (blkOk_by (own := [("_law_word", 9), ("_law_label", 8)]) (N := ["_law_hand_here", "_law_company", "_law_labels_here", "_law_odd", "_law_stranger", "_law_guest", "_law_thing", "_law_told_here", "_law_label", "_law_word"]) (sc := defScope s_Lstr) (by decide +kernel)) (fun _ _ _ _ _ => pg_tup (by rfl) (pgs_cons (pg_name (i := 9) sc_Lstr.nd rfl (Or.inl rfl)) (pgs_cons (pg_name (i := 8) sc_Lstr.nd rfl (Or.inl rfl)) pgs_nil))) (fun _ _ _ _ _ => pts_one (PW.pt (pw_or (pt_cmpR op_ne (pv 9) pe_str (nomark _)) (pw_or1 (pt_cmpR op_ne (pe_callB (id := "repr") (r := rRepr) call_reprV (by rfl) nrp (by decide +kernel) (pa_cons (pv 8) pa_nil)) (pe_callB (id := "repr") (r := rRepr) call_reprV (by rfl) nrp (by decide +kernel) (pa_cons (pv 6) pa_nil)) (nomark _)))))) (fun _ _ _ _ _ => pv 9)) (pe_lst pa_nil) (nomark _)) (pss_one (ps_ret pe_bl)) pss_nil)))) (pss_cons 
  (ps_set (i := 7) sc_Lstr.nd rfl (Or.inl rfl) (pe_lst (pa_cons (pcal GO hr pass0 (pa_cons (pv 1) (pa_cons (pv 5) (pa_cons (pv 5) pa_nil)))) (pa_cons (pcal GO hr pass0 (pa_cons (pv 1) (pa_cons (pv 4) (pa_cons (pv 5) pa_nil)))) (pa_cons (pcal GO hr pass0 (pa_cons (pv 1) (pa_cons (pv 5) (pa_cons (pv 4) pa_nil)))) pa_nil))))) (pss_one 
  (ps_ret (pe_cmpR (op_eqL hr.units) (pv 7) (pe_lst (pa_cons (pe_tup (pa_cons pe_str (pa_cons (pv 5) pa_nil))) (pa_cons (pe_tup (pa_cons pe_str (pa_cons (pv 4) pa_nil))) (pa_cons (pe_tup (pa_cons pe_str (pa_cons (pv 4) pa_nil))) pa_nil)))) (nomark _)))))))))))))), ?_⟩
    obtain ⟨cs0, i0', r0', t0', eh0, _⟩ := id hh
    have il : (is.map V.int).length = is.length := List.length_map _
    have i60 : is.length ≤ 60 := hC.le60
    have labs := hC.labs
    have e9 : (10 : Int) ^ (9 : Int).toNat = 1000000000 := by decide +kernel
    have noseat : ∀ m : Int, m ∉ is → seat is (.int m) = none := fun m hm => by
      cases e : seat is (.int m) with
      | none => rfl
      | some j =>
        obtain ⟨n, en, hn, _⟩ := seat_some e
        have q : m = n := by injection en
        exact absurd (q ▸ List.mem_of_getElem? hn) hm
    refine ⟨fun σ' H' => ∃ (lo : Addr) (os : List Int), σ' = [some (.ref h), some (.ref x), some (.ref lb), some (.ref lo), none, none, none, none, none, none] ∧ Same H H' ∧ H lo = none ∧ H' lo = some (.lst (os.map V.int)) ∧ os.length ≤ 60 ∧ ∀ o ∈ os, o ∉ is, ?_, ?_⟩
    · refine ⟨_, rfl, lb, rfl, ⟨_, SqL.of elb⟩, fun D hD => ?_⟩
      refine lc_list (K := K) (a := lb) (xs := is.map V.int) (fun i H1 => Same H H1 ∧ H D = none ∧ ∃ os : List Int, os.length ≤ i ∧ H1 D = some (.lst (os.map V.int)) ∧ ∀ o ∈ os, o ∉ is) ⟨new_same hD, hD, [], Nat.le_refl _, upd_same, (fun o ho => by simp at ho)⟩ (fun i H1 _ ⟨S, _⟩ => SqL.of (S _ _ elb)) ?_ ?_
      · rintro i y H1 hy ⟨S1, D0, os, ol, eD, hos⟩
        have hi := (List.getElem?_eq_some_iff.mp hy).1
        obtain ⟨n, rfl⟩ : ∃ n, y = V.int n := by
          rw [List.getElem?_map] at hy
          cases e : is[i]? with
          | none => rw [e] at hy; cases hy
          | some n => rw [e] at hy; exact ⟨n, (Option.some.inj hy).symm⟩
        refine ⟨rfl, ?_⟩
        refine ⟨_, rfl, _, _, rfl, rfl, _, rfl, lb, _, rfl, .inl (SqL.of (S1 _ _ elb)), rfl, flat_all is, _, rfl, ?_⟩
        rw [if_pos rfl, inV_ints]
        by_cases hm : n + 1 ∈ is
        · rw [decide_eq_true hm]
          exact iteF ⟨S1, D0, os, by omega, eD, hos⟩
        · rw [decide_eq_false hm]
          refine iteT ⟨_, rfl, _, _, rfl, rfl, ⟨by decide, by decide, by decide⟩, _, _, rfl, rfl, _, rfl, ?_⟩
          refine ifD (fun _ => ?_) (fun _ => ⟨S1, D0, os, by omega, eD, hos⟩)
          refine ⟨_, rfl, _, _, rfl, rfl, _, eD, by rw [List.length_map]; exact small1000 (by omega), fun b o e => ?_, D0, os ++ [n + 1], by rw [List.length_append]; show os.length + 1 ≤ _; omega, by rw [upd_same, List.map_append]; rfl, fun o ho => ?_⟩
          · rw [upd_ne (ne_of_none e D0)]
            exact S1 _ _ e
          · rcases List.mem_append.mp ho with ho | ho
            · exact hos o ho
            · rw [List.mem_singleton] at ho
              rw [ho]
              exact hm
      · rintro H1 ⟨S1, D0, os, ol, eD, hos⟩
        exact ⟨D, os, rfl, S1, D0, eD, by omega, hos⟩
    rintro σ1 H1 ⟨lo, os, rfl, S1, nlo, elo, ol, hos⟩
    have h1 := hh.keep S1
    -- the stranger
    refine ⟨_, rfl, _, rfl, _, rfl, _, _, rfl, rfl, ⟨by decide, by decide, by decide⟩, _, _, rfl, rfl, (by show 2 ≤ sizeLine; decide), fun p hp => ?_⟩
    rw [e9]
    have T2 : Same H1 (upd H1 p (.lst [.int (-1), .int (1000000000 + 1)])) := new_same hp
    have ep : (upd H1 p (.lst [.int (-1), .int (1000000000 + 1)])) p = some (.lst [.int (-1), .int (1000000000 + 1)]) := upd_same
    show rCat _ _ (upd H1 p (.lst [.int (-1), .int (1000000000 + 1)])) _
    generalize upd H1 p (.lst [.int (-1), .int (1000000000 + 1)]) = H2 at T2 ep
    refine ⟨lo, p, _, _, rfl, rfl, T2 _ _ elo, ep, by rw [List.length_map]; show os.length + 2 ≤ 16777216; omega, fun p2 hp2 => ?_⟩
    have h2 := h1.keep T2
    have T3 : Same H2 (upd H2 p2 (.lst (os.map V.int ++ [.int (-1), .int (1000000000 + 1)]))) := new_same hp2
    have ep2 : (upd H2 p2 (.lst (os.map V.int ++ [.int (-1), .int (1000000000 + 1)]))) p2 = some (.lst (os.map V.int ++ [.int (-1), .int (1000000000 + 1)])) := upd_same
    generalize upd H2 p2 (.lst (os.map V.int ++ [.int (-1), .int (1000000000 + 1)])) = H3 at T3 ep2
    have S3 := (S1.trans T2).trans T3
    refine ⟨h, q, p2, _, rfl, h2.keep T3, (h2.same_h' hp2).1, ep2, by rw [List.length_append]; show 0 < _ + 2; omega, by rw [List.length_append, List.length_map]; show os.length + 2 ≤ 1000; omega, fun H4 y hy B4 h4 => ?_⟩
    obtain ⟨m, rfl, hm⟩ : ∃ m : Int, y = .int m ∧ m ∉ is := by
      rcases List.mem_append.mp hy with hy | hy
      · obtain ⟨o, ho, rfl⟩ := List.mem_map.mp hy
        exact ⟨o, rfl, hos o ho⟩
      · simp only [List.mem_cons, List.not_mem_nil, or_false] at hy
        rcases hy with rfl | rfl
        · exact ⟨_, rfl, fun z => by have := (labs _ z).1; omega⟩
        · exact ⟨_, rfl, fun z => by have := (labs _ z).2; omega⟩
    have stm := noseat m hm
    have hC4 : CompAt C CC H4 x ns is tss := (hC.keep S3).but (S3 _ _ eh0) B4
    have elb4 := B4 _ _ nlb (S3 _ _ elb)
    have B04 : But h H H4 := (But.same S3).trans B4
    have m7 : seat is (.int (-7)) = none := noseat _ (fun z => by have := (labs _ z).1; omega)
    clear hy ep2 ep
    refine ⟨fun σ' H' => σ' = [some (.ref h), some (.ref x), some (.ref lb), some (.ref lo), some (.int m), none, none, none, none, none] ∧ H' = H4, ?_, ?_⟩
    · refine ⟨_, rfl, _, _, rfl, rfl, _, rfl, ?_⟩
      refine ifD (fun _ => ?_) (fun _ => ⟨rfl, rfl⟩)
      refine ⟨_, rfl, _, _, rfl, rfl, ⟨by decide, by decide, by decide⟩, _, _, rfl, rfl, _, rfl, ?_⟩
      refine ifD (fun _ => ?_) (fun _ => ⟨rfl, rfl⟩)
      obtain ⟨dx, t, g, r, tb, p', qs, kvs, a1, _⟩ := id hC4
      refine ⟨_, rfl, _, rfl, x, dx, _, rfl, a1, ⟨x, ns, is, tss, .int m, .sc (.int m), rfl, hC4, ⟨rfl, rfl⟩, _, rfl, _, rfl, ?_⟩⟩
      rw [stm]
      exact iteF ⟨rfl, rfl⟩
    rintro σ5 H5 ⟨rfl, rfl⟩
    refine ⟨_, rfl, _, rfl, _, rfl, x, ns, is, tss, .int m, .int m, rfl, hC4.keep (Same.refl H5), rfl, rfl, fun HA1 za_1 TA_1 _ ea_1 => ?_⟩
    rw [toldW_none stm] at ea_1
    refine ⟨_, rfl, (by show 2 ≤ sizeLine; decide), fun zb_1 hzb_1 => ?_⟩
    have TB_1 : Same HA1 (upd HA1 zb_1 (.tup [.str "no guest", .int m])) := new_same hzb_1
    have eb_1 : (upd HA1 zb_1 (.tup [.str "no guest", .int m])) zb_1 = some (.tup [.str "no guest", .int m]) := upd_same
    generalize upd HA1 zb_1 (.tup [.str "no guest", .int m]) = HB1 at TB_1 eb_1
    have SS_1 := ((Same.refl H5).trans TA_1).trans TB_1
    refine ⟨.inr ⟨za_1, zb_1, _, rfl, rfl, SqT.of (TB_1 _ _ ea_1), SqT.of eb_1, fun y hy => ?_⟩, _, rfl, iteF ?_⟩
    · simp only [List.mem_cons, List.not_mem_nil, or_false] at hy
      rcases hy with rfl | rfl <;> rfl
    refine ⟨_, rfl, _, rfl, x, ns, is, tss, .int m, rfl, hC4.keep (SS_1), rfl, stm, fun HR0 TR0 => ⟨_, rfl, iteF ?_⟩⟩
    have SR0 := (SS_1).trans TR0
    refine ⟨_, rfl,  x, ns, is, tss, .non, rfl, hC4.keep (SR0), rfl, rfl, fun HR1 TR1 => ⟨_, rfl, iteF ?_⟩⟩
    have SR1 := (SR0).trans TR1
    refine ⟨_, rfl,  x, ns, is, tss, .bl true, rfl, hC4.keep (SR1), rfl, rfl, fun HR2 TR2 => ⟨_, rfl, iteF ?_⟩⟩
    have SR2 := (SR1).trans TR2
    refine ⟨_, rfl, _, rfl, _, rfl, x, ns, is, tss, .int m, .int (-7), rfl, hC4.keep (SR2), rfl, rfl, fun HA2 za_2 TA_2 _ ea_2 => ?_⟩
    rw [toldW_none stm] at ea_2
    refine ⟨_, rfl, (by show 2 ≤ sizeLine; decide), fun zb_2 hzb_2 => ?_⟩
    have TB_2 : Same HA2 (upd HA2 zb_2 (.tup [.str "no guest", .int m])) := new_same hzb_2
    have eb_2 : (upd HA2 zb_2 (.tup [.str "no guest", .int m])) zb_2 = some (.tup [.str "no guest", .int m]) := upd_same
    generalize upd HA2 zb_2 (.tup [.str "no guest", .int m]) = HB2 at TB_2 eb_2
    have SS_2 := ((SR2).trans TA_2).trans TB_2
    refine ⟨.inr ⟨za_2, zb_2, _, rfl, rfl, SqT.of (TB_2 _ _ ea_2), SqT.of eb_2, fun y hy => ?_⟩, _, rfl, iteF ?_⟩
    · simp only [List.mem_cons, List.not_mem_nil, or_false] at hy
      rcases hy with rfl | rfl <;> rfl
    refine ⟨_, rfl, _, rfl, _, rfl, x, ns, is, tss, .int (-7), .int m, rfl, hC4.keep (SS_2), rfl, rfl, fun HA3 za_3 TA_3 _ ea_3 => ?_⟩
    rw [toldW_none m7] at ea_3
    refine ⟨_, rfl, (by show 2 ≤ sizeLine; decide), fun zb_3 hzb_3 => ?_⟩
    have TB_3 : Same HA3 (upd HA3 zb_3 (.tup [.str "no guest", .int (-7)])) := new_same hzb_3
    have eb_3 : (upd HA3 zb_3 (.tup [.str "no guest", .int (-7)])) zb_3 = some (.tup [.str "no guest", .int (-7)]) := upd_same
    generalize upd HA3 zb_3 (.tup [.str "no guest", .int (-7)]) = HB3 at TB_3 eb_3
    have SS_3 := ((SS_2).trans TA_3).trans TB_3
    refine ⟨.inr ⟨za_3, zb_3, _, rfl, rfl, SqT.of (TB_3 _ _ ea_3), SqT.of eb_3, fun y hy => ?_⟩, _, rfl, iteF ?_⟩
    · simp only [List.mem_cons, List.not_mem_nil, or_false] at hy
      rcases hy with rfl | rfl <;> rfl
    -- no guests
    refine ⟨_, rfl, (by show 0 ≤ sizeLine; decide), fun pe hpe => ?_⟩
    have TE : Same HB3 (upd HB3 pe (.lst [])) := new_same hpe
    have epe : (upd HB3 pe (.lst [])) pe = some (.lst []) := upd_same
    generalize upd HB3 pe (.lst []) = HE at TE epe
    have SE := (SS_3).trans TE
    refine ⟨lb, pe, _, rfl, rfl, SqL.of (SE _ _ elb4), SqL.of epe, _, rfl, ?_⟩
    cases his : is with
    | nil => 
      subst his
      exact iteT (k _ (B04.trans (But.same SE)) (h4.keep SE))
    | cons i0 is' =>
    rw [← his]
    have ine : (is.map V.int).isEmpty = false := by rw [his]; rfl
    rw [ine]
    refine iteF ?_
    -- a guest
    have hE := h4.keep SE
    refine ⟨_, rfl, _, rfl, h, q, lb, _, rfl, hE, nlb, SE _ _ elb4, by rw [il, his]; exact Nat.succ_pos _, by rw [il]; omega, fun HG y hy BG hG => ?_⟩
    obtain ⟨gu, hgu, rfl⟩ := List.mem_map.mp hy
    obtain ⟨jg, hjg⟩ := List.getElem?_of_mem hgu
    obtain ⟨_, _, _, _, _, _, _, _, _, _, _, _, _, _, _, asc, _⟩ := id hC4
    have stg := seat_at asc hjg
    obtain ⟨cs1, i1', r1', t1', eh1, _⟩ := id hE
    have hCG : CompAt C CC HG x ns is tss := (hC4.keep SE).but eh1 BG
    have B0G : But h H HG := (B04.trans (But.same SE)).trans BG
    clear hy
    -- things that are no labels
    refine ⟨(by show 4 ≤ sizeLine; decide), fun pl hpl => ?_⟩
    have TL : Same HG (upd HG pl (.lst [.bl true, .bl false, .non, .str "1"])) := new_same hpl
    have epl : (upd HG pl (.lst [.bl true, .bl false, .non, .str "1"])) pl = some (.lst [.bl true, .bl false, .non, .str "1"]) := upd_same
    refine ⟨pl, rfl, ⟨_, SqL.of epl⟩, for_list (K := K) (a := pl) (xs := [.bl true, .bl false, .non, .str "1"]) (fun i σ H' => ∃ v6 v7 : Option V, σ = [some (.ref h), some (.ref x), some (.ref lb), some (.ref lo), some (.int m), some (.int gu), v6, v7, none, none] ∧ Same HG H' ∧ Same (upd HG pl (.lst [.bl true, .bl false, .non, .str "1"])) H')
      ⟨none, none, rfl, TL, Same.refl _⟩ (fun i σ H' _ ⟨_, _, _, _, S⟩ => SqL.of (S _ _ epl)) ?_ ?_⟩
    · rintro i y σ HK hy ⟨v6, v7, rfl, TK, TK2⟩
      obtain ⟨scy, sty, ry⟩ : isSc y = true ∧ seat is y = none ∧ rOk y := by
        have hm := List.mem_of_getElem? hy
        simp only [List.mem_cons, List.not_mem_nil, or_false] at hm
        rcases hm with rfl | rfl | rfl | rfl
        · exact ⟨rfl, rfl, trivial⟩
        · exact ⟨rfl, rfl, trivial⟩
        · exact ⟨rfl, rfl, trivial⟩
        · exact ⟨rfl, rfl, by show (reprText "1").length ≤ 16777216; decide +kernel⟩
      refine ⟨_, rfl, _, rfl, _, rfl, x, ns, is, tss, y, .int gu, rfl, hCG.keep TK, scy, rfl, fun HL za TA _ ea => ?_⟩
      rw [toldW_none sty] at ea
      have S1' := TK.trans TA
      refine ⟨_, rfl, _, rfl, _, rfl, x, ns, is, tss, .int gu, y, rfl, hCG.keep S1', rfl, scy, fun HM zb TB _ eb => ?_⟩
      rw [toldW_none2 stg sty] at eb
      have S2' := S1'.trans TB
      refine ⟨(by show 2 ≤ sizeLine; decide), fun pt hpt => ?_⟩
      have TP : Same HM (upd HM pt (.lst [.ref za, .ref zb])) := new_same hpt
      have ept : (upd HM pt (.lst [.ref za, .ref zb])) pt = some (.lst [.ref za, .ref zb]) := upd_same
      generalize upd HM pt (.lst [.ref za, .ref zb]) = HN at TP ept
      have S3' := S2'.trans TP
      have ea' := TP _ _ (TB _ _ ea)
      have eb' := TP _ _ eb
      refine ⟨_, rfl, pt, rfl, ⟨_, SqL.of ept⟩, fun D hD => ?_⟩
      refine lc_list (K := K) (a := pt) (xs := [.ref za, .ref zb]) (fun i H' => Same HN H' ∧ HN D = none ∧ H' D = some (.lst [])) ⟨new_same hD, hD, upd_same⟩ (fun i H' _ ⟨S, _⟩ => SqL.of (S _ _ ept)) ?_ ?_
      · rintro i2 z HO' hz ⟨SO, D0, eD⟩
        obtain ⟨zz, rfl, ezz⟩ : ∃ zz, z = V.ref zz ∧ HO' zz = some (.tup [.str "no guest", y]) := by
          have hm := List.mem_of_getElem? hz
          simp only [List.mem_cons, List.not_mem_nil, or_false] at hm
          rcases hm with rfl | rfl
          · exact ⟨za, rfl, SO _ _ ea'⟩
          · exact ⟨zb, rfl, SO _ _ eb'⟩
        refine ⟨zz, _, rfl, SqT.of ezz, rfl, _, _, rfl, _, _, rfl, rfl, rfl, ?_⟩
        refine ⟨_, rfl, rfl, _, rfl, if_fa (by simp) ?_⟩
        refine ⟨_, rfl, y, rfl, ry, _, rfl, y, rfl, ry, rfl, _, rfl, if_fa (by simp) ?_⟩
        exact ⟨SO, D0, eD⟩
      · rintro HO' ⟨SO, D0, eD⟩
        refine ⟨(by show 0 ≤ sizeLine; decide), fun pn hpn => ?_⟩
        have TN : Same HO' (upd HO' pn (.lst [])) := new_same hpn
        refine ⟨D, pn, [], rfl, rfl, SqL.of (TN _ _ eD), SqL.of upd_same, _, rfl, iteF ?_⟩
        exact ⟨_, _, rfl, (S3'.trans SO).trans TN, ((((TK2.trans TA).trans TB).trans TP).trans SO).trans TN⟩
    rintro σ6 HK ⟨v6, v7, rfl, TK, _⟩
    refine ⟨_, rfl, _, rfl, _, rfl, x, ns, is, tss, .int gu, .int gu, rfl, hCG.keep TK, rfl, rfl, fun HL za TA _ ea => ?_⟩
    rw [toldW_same stg stg] at ea
    have S1' := TK.trans TA
    refine ⟨_, rfl, _, rfl, _, rfl, x, ns, is, tss, .int m, .int gu, rfl, hCG.keep S1', rfl, rfl, fun HM zb TB _ eb => ?_⟩
    rw [toldW_none stm] at eb
    have S2' := S1'.trans TB
    refine ⟨_, rfl, _, rfl, _, rfl, x, ns, is, tss, .int gu, .int m, rfl, hCG.keep S2', rfl, rfl, fun HN zc TC' _ ec => ?_⟩
    rw [toldW_none2 stg stm] at ec
    have S3' := S2'.trans TC'
    refine ⟨(by show 3 ≤ sizeLine; decide), fun pt hpt => ?_⟩
    have TP : Same HN (upd HN pt (.lst [.ref za, .ref zb, .ref zc])) := new_same hpt
    have ept : (upd HN pt (.lst [.ref za, .ref zb, .ref zc])) pt = some (.lst [.ref za, .ref zb, .ref zc]) := upd_same
    generalize upd HN pt (.lst [.ref za, .ref zb, .ref zc]) = HP at TP ept
    refine ⟨_, rfl, _, rfl, (by show 2 ≤ sizeLine; decide), fun t1 ht1 => ?_⟩
    have U1 : Same HP (upd HP t1 (.tup [.str "alike", .int gu])) := new_same ht1
    have f1' : (upd HP t1 (.tup [.str "alike", .int gu])) t1 = some (.tup [.str "alike", .int gu]) := upd_same
    generalize upd HP t1 (.tup [.str "alike", .int gu]) = HQ1 at U1 f1'
    refine ⟨_, rfl, (by show 2 ≤ sizeLine; decide), fun t2 ht2 => ?_⟩
    have U2 : Same HQ1 (upd HQ1 t2 (.tup [.str "no guest", .int m])) := new_same ht2
    have f2' : (upd HQ1 t2 (.tup [.str "no guest", .int m])) t2 = some (.tup [.str "no guest", .int m]) := upd_same
    generalize upd HQ1 t2 (.tup [.str "no guest", .int m]) = HQ2 at U2 f2'
    refine ⟨_, rfl, (by show 2 ≤ sizeLine; decide), fun t3 ht3 => ?_⟩
    have U3 : Same HQ2 (upd HQ2 t3 (.tup [.str "no guest", .int m])) := new_same ht3
    have f3' : (upd HQ2 t3 (.tup [.str "no guest", .int m])) t3 = some (.tup [.str "no guest", .int m]) := upd_same
    generalize upd HQ2 t3 (.tup [.str "no guest", .int m]) = HQ3 at U3 f3'
    refine ⟨(by show 3 ≤ sizeLine; decide), fun pf hpf => ?_⟩
    have U4 : Same HQ3 (upd HQ3 pf (.lst [.ref t1, .ref t2, .ref t3])) := new_same hpf
    have epf : (upd HQ3 pf (.lst [.ref t1, .ref t2, .ref t3])) pf = some (.lst [.ref t1, .ref t2, .ref t3]) := upd_same
    generalize upd HQ3 pf (.lst [.ref t1, .ref t2, .ref t3]) = HZ at U4 epf
    have UU := ((U1.trans U2).trans U3).trans U4
    have flat2 : ∀ (w' : Str) (n' : Int), ∀ y ∈ ([.str w', .int n'] : List V), flatB y = true := fun w' n' y hy => by
      simp only [List.mem_cons, List.not_mem_nil, or_false] at hy
      rcases hy with rfl | rfl <;> rfl
    refine ⟨pt, pf, _, _, rfl, rfl, SqL.of (UU _ _ ept), SqL.of epf, .cons (.inr (.inr ⟨za, t1, _, rfl, rfl, SqT.of (UU _ _ (TP _ _ (TC' _ _ (TB _ _ ea)))), SqT.of (U4 _ _ (U3 _ _ (U2 _ _ f1'))), flat2 _ _⟩)) (.cons (.inr (.inr ⟨zb, t2, _, rfl, rfl, SqT.of (UU _ _ (TP _ _ (TC' _ _ eb))), SqT.of (U4 _ _ (U3 _ _ f2')), flat2 _ _⟩)) (.cons (.inr (.inr ⟨zc, t3, _, rfl, rfl, SqT.of (UU _ _ (TP _ _ ec)), SqT.of (U4 _ _ f3'), flat2 _ _⟩)) .nil)), ?_⟩
    have SZ : Same HG HZ := (S3'.trans TP).trans UU
    exact k _ (B0G.trans (But.same SZ)) (hG.keep SZ)
end
end J

set_option Elab.async false
set_option linter.all false
set_option maxRecDepth 100000
set_option maxHeartbeats 4000000
namespace J
open PySem PySem.Spec PyProof.Rows L2
/-! ### the company of nobody: its defaults lie in the written part -/
def KT (K : PySem.W.Frag) (a : Addr) : Prop := ∃ (o : Obj) (its : Array Value) (n : Nat), K.lookup a = some o ∧ o.cls = .type "tuple" ∧ o.data = .seq its n ∧ its.size ≤ sizeLine ∧ Vals [] its.toList
theorem KT.sq {K : PySem.W.Frag} {a : Addr} (h : KT K a) (H : Hp) : SqT K H a [] := .inr h
theorem isi_seqK {K : PySem.W.Frag} {H : Hp} {a : Addr} {Q : VK} (h : KT K a) (k : ∀ H', Same H H' → Q (.bl true) H') : 2 ≤ sizeLine ∧ ∀ p, H p = none → rIsiT K [.ref a, .ref p] (upd H p (.tup [.ty "list", .ty "tuple"])) Q := by
  obtain ⟨o, its, n, lk, hc, _⟩ := h
  exact ⟨by decide, fun p hp => ⟨_, _, _, _, _, _, rfl, upd_same, .cons (.ty "list") (.cons (.ty "tuple") .nil), .kTuple lk hc, kit_seq kt_tuple_list kt_tuple_tuple, k _ (new_same hp)⟩⟩
def spSeqK (K : PySem.W.Frag) : Sp := fun vs H Q _ => ∃ a : Addr, vs = [.ref a] ∧ KT K a ∧ ∀ H', Same H H' → Q (.bl true) H'
def spCCK (K : PySem.W.Frag) : Sp := fun vs H Q _ => ∃ (t g r : Addr), vs = [.ref t, .ref g, .ref r] ∧ KT K g ∧ KT K r ∧ ∀ H', Same H H' → Q .non H'
/-- nobody at x -/
def NobAt (K : PySem.W.Frag) (C CC : Addr) (H : Hp) (x : Addr) (ns : List Int) : Prop := ∃ (dx t g r b p : Addr), H x = some (.ins CC dx (cf t g r b p)) ∧ TiesAt C H t ns ∧ SqT K H g [] ∧ SqT K H r []
theorem SqT.sm {K : PySem.W.Frag} {H H' : Hp} {a : Addr} {xs : List V} (h : SqT K H a xs) (S : Same H H') : SqT K H' a xs := by
  rcases h with (e | ⟨o, e⟩) | e
  · exact .inl (.inl (S _ _ e))
  · exact .inl (.inr ⟨o, S _ _ e⟩)
  · exact .inr e
theorem NobAt.keep {K : PySem.W.Frag} {C CC : Addr} {H H' : Hp} {x : Addr} {ns : List Int} (h : NobAt K C CC H x ns) (S : Same H H') : NobAt K C CC H' x ns := by
  obtain ⟨dx, t, g, r, b, p, a1, a2, a3, a4⟩ := h
  exact ⟨dx, t, g, r, b, p, S _ _ a1, a2.keep S, SqT.sm a3 S, SqT.sm a4 S⟩
theorem CompAt.nob {K : PySem.W.Frag} {C CC : Addr} {H : Hp} {x : Addr} {ns : List Int} (h : CompAt C CC H x ns [] []) : NobAt K C CC H x ns := by
  obtain ⟨dx, t, g, r, b, p, ps, kvs, a1, a2, a3, ⟨a4, a5, _⟩, _⟩ := h
  have e : ps = [] := List.eq_nil_of_length_eq_zero a5
  subst e
  exact ⟨dx, t, g, r, b, p, a1, a2, SqT.of a3, SqT.of a4⟩
def spCompI0 (K : PySem.W.Frag) (C CC : Addr) : Sp := fun vs H Q _ => ∃ (x dx t g r : Addr) (ns : List Int), vs = [.ref x, .ref t, .ref g, .ref r] ∧ H x = some (.ins CC dx []) ∧ TiesAt C H t ns ∧ KT K g ∧ KT K r ∧
  ∀ (H' : Hp), (∀ b o, b ≠ x → H b = some o → H' b = some o) → NobAt K C CC H' x ns → Q .non H'
def spLenN (K : PySem.W.Frag) (C CC : Addr) : Sp := fun vs H Q _ => ∃ (x : Addr) (ns : List Int), vs = [.ref x] ∧ NobAt K C CC H x ns ∧ Q (.int ((0 : Nat) : Int)) H
def spCEqN (K : PySem.W.Frag) (C CC : Addr) : Sp := fun vs H Q _ => ∃ (x y : Addr) (ns ms : List Int), vs = [.ref x, .ref y] ∧ NobAt K C CC H x ns ∧ NobAt K C CC H y ms ∧ Q (.bl (decide (ns = ms))) H
section
variable {P : Program} {w : World} {K : PySem.W.Frag} {mg : Str → Option Value} {base : Heap}
theorem ok_is_sequenceK {f : Addr} {fd : FuncData} (F : Fun K "is_sequence" "is_sequence" s_is_sequence f fd) (ns : mg "isinstance" = none) (nl : mg "list" = none) (nt : mg "tuple" = none) : FnOk P w K mg base CX0 1 f fd ["thing"] (spSeqK K) := by
  refine F.ok sc_is_sequence (fun vs H Q E h => ?_) (fun cdv A outer s H vs Q E hr h => ?_)
  · obtain ⟨a, rfl, _⟩ := h
    rfl
  · obtain ⟨a, rfl, ha, k⟩ := h
    refine ⟨_, (pss_one 
  (ps_ret (pe_callB call_isiT (by rfl) ns (by decide +kernel) (pa_cons (pv 0) (pa_cons (pe_tup (pa_cons (pe_bltn (by rfl) nl (by decide +kernel) (v := .ty "list") rfl) (pa_cons (pe_bltn (by rfl) nt (by decide +kernel) (v := .ty "tuple") rfl) pa_nil))) pa_nil))))), ?_⟩
    exact ⟨_, rfl, isi_seqK ha k⟩
theorem ok_check_companyK {f C CB fS fL fR fI : Addr} {fd fdS fdL fdR fdI : FuncData} (F : Fun K "_check_company" "_check_company" s_check_company f fd) (nl : mg "len" = none) (ne : mg "enumerate" = none) (mG : ∃ t, mg "MOST_GUESTS" = some (.int 60 t))
    (GS : Cal P w K mg base CX0 1 "is_sequence" fS fdS ["thing"] (spSeqK K)) (GL : Cal P w K mg base CX0 2 "is_label" fL fdL ["thing"] spLabel) (GR : Cal P w K mg base (L2.CX P w) 3 "_check_row" fR fdR ["ties", "index", "row", "length"] (spRow C CB)) (GB : Ex2 P w K mg base "BadCompany" "index" "what" CB fI fdI ["self", "index", "what"]) :
    FnOk P w K mg base (L2.CX P w) 4 f fd ["ties", "guests", "rows"] (spCCK K) := by
  obtain ⟨tG, mG⟩ := mG
  refine F.okX sc_check_company (fun vs H Q E h => ?_) (fun cdv A outer s H vs Q E hr h => ?_)
  · obtain ⟨t, g, r, rfl, _⟩ := h
    rfl
  · obtain ⟨t, g, r, rfl, hg, hrr, k⟩ := h
    have hr2 : Room 2 _ := hr.mono (by decide)
    refine ⟨_, (pss_cons
    (ps_if (PW.pt (pw_or (pt_not (pt_val (pcal GS hr pass0 (pa_cons (pv 1) pa_nil)))) (pw_or1 (pt_not (pt_val (pcal GS hr pass0 (pa_cons (pv 2) pa_nil))))))) (pss_one (ps_raise rfl (takes_of rfl rfl rfl rfl) (pmk_oex GB.o GB.i GB.t GB.F hr2 GB.b .nil pass0 rfl GB.m (pa_cons pe_int (pa_cons pe_str pa_nil))))) pss_nil) (pss_cons 
    (ps_if (pt_cmpR op_gt (pe_callB call_len_seq (by rfl) nl PySem.boot_len (pa_cons (pv 1) pa_nil)) (pe_glob (v := .int 60) rfl mG ⟨_, rfl⟩) (nomark _)) (pss_one (ps_raise rfl (takes_of rfl rfl rfl rfl) (pmk_oex GB.o GB.i GB.t GB.F hr2 GB.b .nil pass0 rfl GB.m (pa_cons (pe_glob (v := .int 60) rfl mG ⟨_, rfl⟩) (pa_cons pe_str pa_nil))))) pss_nil) (pss_cons 
    (ps_for (passes_of rfl) rfl (pi_enumT (by rfl) ne (pa_cons (pv 1) pa_nil)) (pg_tup (by rfl) (pgs_cons (pg_name (i := 3) sc_check_company.nd rfl (Or.inl rfl)) (pgs_cons (pg_name (i := 4) sc_check_company.nd rfl (Or.inl rfl)) pgs_nil))) (pss_cons 
      (ps_if (pt_not (pt_val (pcal GL hr pass0 (pa_cons (pv 4) pa_nil)))) (pss_one (ps_raise rfl (takes_of rfl rfl rfl rfl) (pmk_oex GB.o GB.i GB.t GB.F hr2 GB.b .nil pass0 rfl GB.m (pa_cons (pv 3) (pa_cons pe_str pa_nil))))) pss_nil) (pss_cons 
      (ps_if (PW.pt (pw_and (pt_cmpR op_gt (pv 3) pe_int (nomark _)) (pw_and1 (pt_cmpR op_le (pv 4) (pe_ix ix_tup (pv 1) (pe_op op_sub (pv 3) pe_int) (fun _ _ => rfl)) (nomark _))))) (pss_one (ps_raise rfl (takes_of rfl rfl rfl rfl) (pmk_oex GB.o GB.i GB.t GB.F hr2 GB.b .nil pass0 rfl GB.m (pa_cons (pv 3) (pa_cons pe_str pa_nil))))) pss_nil) (pss_cons 
      (ps_if (pt_cmpR op_ge (pv 3) (pe_callB call_len_seq (by rfl) nl PySem.boot_len (pa_cons (pv 2) pa_nil)) (nomark _)) (pss_one (ps_raise rfl (takes_of rfl rfl rfl rfl) (pmk_oex GB.o GB.i GB.t GB.F hr2 GB.b .nil pass0 rfl GB.m (pa_cons (pv 3) (pa_cons pe_str pa_nil))))) pss_nil) (pss_one 
      (ps_expr (pcal GR hr (passes_call (takes_of rfl rfl rfl rfl) (fun _ _ _ _ h => h)) (pa_cons (pv 0) (pa_cons (pv 3) (pa_cons (pe_ix ix_tup (pv 2) (pv 3) (fun _ _ => rfl)) (pa_cons (pv 3) pa_nil))))))))))) (pss_one 
    (ps_if (pt_cmpR op_gt (pe_callB call_len_seq (by rfl) nl PySem.boot_len (pa_cons (pv 2) pa_nil)) (pe_callB call_len_seq (by rfl) nl PySem.boot_len (pa_cons (pv 1) pa_nil)) (nomark _)) (pss_one (ps_raise rfl (takes_of rfl rfl rfl rfl) (pmk_oex GB.o GB.i GB.t GB.F hr2 GB.b .nil pass0 rfl GB.m (pa_cons (pe_callB call_len_seq (by rfl) nl PySem.boot_len (pa_cons (pv 1) pa_nil)) (pa_cons pe_str pa_nil))))) pss_nil))))), ?_⟩
    refine ⟨_, rfl, g, rfl, hg, fun H1 S1 => ⟨_, rfl, iteF ⟨_, rfl, r, rfl, hrr, fun H2 S2' => ⟨_, rfl, iteF ?_⟩⟩⟩⟩
    have S2 := S1.trans S2'
    refine ⟨_, rfl, g, [], rfl, .inr (hg.sq _), _, _, rfl, rfl, _, rfl, ?_⟩
    refine ifD (fun c => absurd c (by decide)) (fun c => ?_)
    refine ⟨_, rfl, g, [], rfl, hg.sq _, for_enumT (K := K) (a := g) (xs := []) (fun i σ H' => ∃ v3 v4 : Option V, σ = [some (.ref t), some (.ref g), some (.ref r), v3, v4] ∧ Same H2 H')
      ⟨none, none, rfl, Same.refl _⟩ (fun i σ H' _ _ => hg.sq _) ?_ ?_⟩
    · rintro i x σ H' T hx
      simp at hx
    · rintro σ H' ⟨v3, v4, rfl, S3⟩
      refine ⟨_, rfl, r, [], rfl, .inr (hrr.sq _), _, rfl, g, [], rfl, .inr (hg.sq _), _, _, rfl, rfl, _, rfl, ?_⟩
      refine ifD (fun c => absurd c (by decide)) (fun c => ?_)
      exact k _ (S2.trans S3)
theorem ok_Company_init0 {f C CC fK fT : Addr} {fd fdK fdT : FuncData} {dvs : List V} (F : FunD K "__init__" "Company.__init__" (defArgs s_Company_init) (defBody s_Company_init) (defScope s_Company_init) dvs [] f fd) (c : CoC K CC) (nt : mg "tuple" = none) (ne : mg "enumerate" = none)
    (GK : Cal P w K mg base (L2.CX P w) 4 "_check_company" fK fdK ["ties", "guests", "rows"] (spCCK K)) (GT : Cal P w K mg base CX0 1 "_table_of" fT fdT ["ties", "rows"] (spTable C)) : FnOk P w K mg base (L2.CX P w) 5 f fd ["self", "ties", "guests", "rows"] (spCompI0 K C CC) := by
  refine F.ok sc_Company_init (fun vs H Q E h => ?_) (fun cdv A outer s H vs Q E hr h => ?_)
  · obtain ⟨x, dx, t, g, r, ns, rfl, _⟩ := h
    rfl
  · obtain ⟨x, dx, t, g, r, ns, rfl, hx, hT, hg, hrr, k⟩ := h
    refine ⟨_, (pss_cons
    (ps_expr (pcal GK hr (passes_call (takes_of rfl rfl rfl rfl) (fun _ _ _ _ h => h)) (pa_cons (pv 1) (pa_cons (pv 2) (pa_cons (pv 3) pa_nil))))) (pss_cons 
    (ps_fld (pv 0) (pv 1) rfl) (pss_cons 
    (ps_fld (pv 0) (pe_callTy (T := "tuple") (r := rTup K) call_tuple_of (by rfl) nt (by decide +kernel) (pa_cons (pv 2) pa_nil)) rfl) (pss_cons 
    (ps_fld (pv 0) (pe_callTy (T := "tuple") (r := rTup K) call_tuple_of (by rfl) nt (by decide +kernel) (pa_cons (pe_lc (own := [("row", 4)]) (g := gName 4) (by rfl) sc_Company_init.nd (pi_tup (pv 3)) (blkOk_by (own := [("row", 4)]) (N := ["self", "ties", "guests", "rows", "row", "place", "label"]) (sc := defScope s_Company_init) (by decide +kernel)) (fun _ _ _ _ _ => pg_name (i := 4) sc_Company_init.nd rfl (Or.inl rfl)) (fun _ _ _ _ _ => pts_nil) (fun _ _ _ _ _ => (pe_callTy (T := "tuple") (r := rTup K) call_tuple_of (by rfl) nt (by decide +kernel) (pa_cons (pv 4) pa_nil)))) pa_nil)) rfl) (pss_cons 
    (ps_fld (pv 0) (pcal GT hr pass0 (pa_cons (pv 1) (pa_cons (pe_fld (pv 0) rfl) pa_nil))) rfl) (pss_one 
    (ps_fld (pv 0) (pe_dc (own := [("place", 5), ("label", 6)]) (g := gTup K 2 (gCons (gName 5) (gCons (gName 6) gNil))) (by rfl) sc_Company_init.nd (pi_enumT (by rfl) ne (pa_cons (pe_fld (pv 0) rfl) pa_nil)) (blkOk_by (own := [("place", 5), ("label", 6)]) (N := ["self", "ties", "guests", "rows", "row", "place", "label"]) (sc := defScope s_Company_init) (by decide +kernel)) (fun _ _ _ _ _ => pg_tup (by rfl) (pgs_cons (pg_name (i := 5) sc_Company_init.nd rfl (Or.inl rfl)) (pgs_cons (pg_name (i := 6) sc_Company_init.nd rfl (Or.inl rfl)) pgs_nil))) (fun _ _ _ _ _ => pts_nil) (fun _ _ _ _ _ => pv 6) (fun _ _ _ _ _ => pv 5)) rfl))))))), ?_⟩
    refine ⟨_, rfl, _, rfl, _, rfl, t, g, r, rfl, hg, hrr, fun H1 S1 => ?_⟩
    have hx1 := S1 _ _ hx
    refine ⟨_, rfl, _, rfl, x, CC, dx, [], rfl, hx1, c.cl, c.nT, (by decide), ?_⟩
    have hx2 : (upd H1 x (.ins CC dx (putF "ties" (.ref t) []))) x = some (.ins CC dx (f1 t)) := upd_same
    have B2 : ∀ b o, b ≠ x → H b = some o → (upd H1 x (.ins CC dx (putF "ties" (.ref t) []))) b = some o := fun b o nb eb => by rw [upd_ne nb]; exact S1 _ _ eb
    refine ⟨_, rfl, g, [], rfl, .inr ⟨hg.sq _, ?_⟩⟩
    refine ⟨_, rfl, x, CC, dx, _, rfl, hx2, c.cl, c.nG, l1 t, ?_⟩
    have hx3 : (upd (upd H1 x (.ins CC dx (putF "ties" (.ref t) []))) x (.ins CC dx (putF "guests" (.ref g) (f1 t)))) x = some (.ins CC dx (f2 t g)) := upd_same
    have B3 : ∀ b o, b ≠ x → H b = some o → (upd (upd H1 x (.ins CC dx (putF "ties" (.ref t) []))) x (.ins CC dx (putF "guests" (.ref g) (f1 t)))) b = some o := fun b o nb eb => by
      rw [upd_ne nb]
      exact B2 b o nb eb
    generalize upd (upd H1 x (.ins CC dx (putF "ties" (.ref t) []))) x (.ins CC dx (putF "guests" (.ref g) (f1 t))) = H3 at hx3 B3
    refine ⟨_, rfl, r, rfl, ⟨_, hrr.sq _⟩, fun D hD => ?_⟩
    refine lc_tup (K := K) (a := r) (xs := []) (fun i H4 => Same H3 H4 ∧ H3 D = none ∧ H4 D = some (.lst [])) ⟨new_same hD, hD, upd_same⟩ (fun i H4 _ _ => hrr.sq _) ?_ ?_
    · rintro i y H4 hy
      simp at hy
    · rintro H4 ⟨S4, D0, eD⟩
      refine ⟨D, _, rfl, .inl ⟨SqL.of eD, fun ra hra => ?_⟩⟩
      have hx4 := S4 _ _ hx3
      have nra : ra ≠ x := (ne_of_none hx4 hra).symm
      refine ⟨_, rfl, x, CC, dx, _, rfl, (by rw [upd_ne nra.symm]; exact hx4), c.cl, c.nR, l2 t g, ?_⟩
      have hx5 : (upd (upd H4 ra (.tup [])) x (.ins CC dx (putF "rows" (.ref ra) (f2 t g)))) x = some (.ins CC dx (f3 t g ra)) := upd_same
      have hr5 : (upd (upd H4 ra (.tup [])) x (.ins CC dx (putF "rows" (.ref ra) (f2 t g)))) ra = some (.tup []) := by rw [upd_ne nra, upd_same]
      have B5 : ∀ b o, b ≠ x → H b = some o → (upd (upd H4 ra (.tup [])) x (.ins CC dx (putF "rows" (.ref ra) (f2 t g)))) b = some o := fun b o nb eb => by
        have e := S4 _ _ (B3 b o nb eb)
        rw [upd_ne nb, upd_ne (ne_of_none e hra)]
        exact e
      generalize upd (upd H4 ra (.tup [])) x (.ins CC dx (putF "rows" (.ref ra) (f2 t g))) = H5 at hx5 hr5 B5
      have hT5 := hT.but hx B5
      refine ⟨_, rfl, _, rfl, x, CC, dx, _, _, rfl, hx5, c.cl, c.nR, f3_rows t g ra, t, ra, ns, [], [], rfl, hT5, ⟨hr5, rfl, fun j a ts e => by simp at e⟩, Nat.zero_le _, fun H6 z S6 _ e6 => ?_⟩
      have hx6 := S6 _ _ hx5
      refine ⟨_, rfl, x, CC, dx, _, rfl, hx6, c.cl, c.nB, l3 t g ra, ?_⟩
      have hx7 : (upd H6 x (.ins CC dx (putF "table" (.ref z) (f3 t g ra)))) x = some (.ins CC dx (f4 t g ra z)) := upd_same
      have B7 : ∀ b o, b ≠ x → H5 b = some o → (upd H6 x (.ins CC dx (putF "table" (.ref z) (f3 t g ra)))) b = some o := fun b o nb eb => by
        rw [upd_ne nb]
        exact S6 _ _ eb
      generalize upd H6 x (.ins CC dx (putF "table" (.ref z) (f3 t g ra))) = H7 at hx7 B7
      refine ⟨_, rfl, x, CC, dx, _, _, rfl, hx7, c.cl, c.nG, f4_guests t g ra z, g, [], rfl, hg.sq _, fun D2 hD2 => ?_⟩
      refine dc_enumT (K := K) (a := g) (xs := []) (fun i H8 => Same H7 H8 ∧ H7 D2 = none ∧ ∃ kvs : List (Key × V), H8 D2 = some (.dK kvs)) ⟨new_same hD2, hD2, [], upd_same⟩ (fun i H8 _ _ => hg.sq _) ?_ ?_
      · rintro i y H8 T hy
        simp at hy
      · rintro H8 ⟨S8, D0', kvs, eK⟩
        have hx8 := S8 _ _ hx7
        refine ⟨_, rfl, x, CC, dx, _, rfl, hx8, c.cl, c.nP, l4 t g ra z, ?_⟩
        have B9 : ∀ b o, b ≠ x → H b = some o → (upd H8 x (.ins CC dx (putF "_places" (.ref D2) (f4 t g ra z)))) b = some o := fun b o nb eb => by
          rw [upd_ne nb]
          exact S8 _ _ (B7 b o nb (B5 b o nb eb))
        have hr9 : (upd H8 x (.ins CC dx (putF "_places" (.ref D2) (f4 t g ra z)))) ra = some (.tup []) := by
          have n : ra ≠ x := ne_of hr5 hx5 (by intro z; cases z)
          rw [upd_ne n]
          exact S8 _ _ (B7 _ _ n hr5)
        exact k _ B9 ⟨dx, t, g, ra, z, D2, upd_same, hT.but hx B9, hg.sq _, SqT.of hr9⟩
theorem ok_Company_lenN {f C CC : Addr} {fd : FuncData} (F : Fun K "__len__" "Company.__len__" s_Company_len f fd) (c : CoC K CC) (nl : mg "len" = none) : FnOk P w K mg base CX0 1 f fd ["self"] (spLenN K C CC) := by
  refine F.ok sc_Company_len (fun vs H Q E h => ?_) (fun cdv A outer s H vs Q E hr h => ?_)
  · obtain ⟨x, ns, rfl, _⟩ := h
    rfl
  · obtain ⟨x, ns, rfl, ⟨dx, t, g, r, b, p, a1, a2, a3, a4⟩, k⟩ := h
    refine ⟨_, (pss_one (ps_ret (pe_callB call_len_seq (by rfl) nl PySem.boot_len (pa_cons (pe_fld (pv 0) rfl) pa_nil)))), ?_⟩
    exact ⟨_, rfl, x, CC, dx, _, _, rfl, a1, c.cl, c.nG, cf_guests _ _ _ _ _, g, [], rfl, .inr a3, k⟩
theorem ok_Company_eqN {f C CC fE : Addr} {fd fdE : FuncData} (F : Fun K "__eq__" "Company.__eq__" s_Company_eq f fd) (T : TiX K mg C) (c : CoX K mg CC) (nis : mg "isinstance" = none)
    (FE : FnOk P w K mg base CX0 1 fE fdE ["self", "other"] (spTEq C)) (aE : PySem.W.findIn K (.ref C) "__eq__" = some (some (.ref fE))) (iE : PySem.W.isFn K (.ref fE) = true) (bE : Binds K fdE ["self", "other"] []) : FnOk P w K mg base CX0 2 f fd ["self", "other"] (spCEqN K C CC) := by
  refine F.ok sc_Company_eq (fun vs H Q E h => ?_) (fun cdv A outer s H vs Q E hr h => ?_)
  · obtain ⟨x, y, ns, ms, rfl, _⟩ := h
    rfl
  · obtain ⟨x, y, ns, ms, rfl, ⟨dx, t, g, r, b, p, a1, a2, a3, a4⟩, ⟨dy, t', g', r', b', p', c1, c2, c3, c4⟩, k⟩ := h
    refine ⟨_, (pss_cons 
  (ps_if (pt_not (pt_val (pe_callB call_isi (by rfl) nis (by decide +kernel) (pa_cons (pv 1) (pa_cons (pe_glob (v := .ref CC) rfl c.mC rfl) pa_nil))))) (pss_one 
    (ps_ret pe_bl)) pss_nil) (pss_one 
  (ps_ret (pe_and (pe_cmpR (op_eqOwn FE aE iE bE pass0 hr T.nf) (pe_fld (pv 0) rfl) (pe_fld (pv 1) rfl) (nomark _)) (pe_and (pe_cmpR (op_eqD hr.units) (pe_fld (pv 0) rfl) (pe_fld (pv 1) rfl) (nomark _)) (pe_one (pe_cmpR (op_eqD hr.units) (pe_fld (pv 0) rfl) (pe_fld (pv 1) rfl) (nomark _)))))))), ?_⟩
    obtain ⟨d1, tb1, w1, w2⟩ := id a2
    obtain ⟨d2, tb2, w3, w4⟩ := id c2
    refine ⟨_, rfl, _, _, _, _, true, rfl, .own CC, .base (.ins c1 c.cl c.isc.ha c.isc.hn c.isc.htk c.isc.hm), c.isc.me, _, rfl, iteF ?_⟩
    refine ⟨_, rfl, x, CC, dx, _, _, rfl, a1, c.cl, c.nT, cf_ties _ _ _ _ _, _, rfl, y, CC, dy, _, _, rfl, c1, c.cl, c.nT, cf_ties _ _ _ _ _, t, t', d1, _, rfl, rfl, w1, .inl ⟨d2, _, w3⟩, t, t', ns, rfl, a2, .inl ⟨ms, c2, ⟨_, rfl⟩, _, rfl, ?_⟩⟩
    by_cases h1 : ns = ms
    case neg =>
      refine if_fa (decide_eq_false h1) ?_
      rw [decide_eq_false h1] at k
      exact k
    refine if_tr (decide_eq_true h1) ?_
    rw [decide_eq_true h1] at k
    refine ⟨_, rfl, x, CC, dx, _, _, rfl, a1, c.cl, c.nG, cf_guests _ _ _ _ _, _, rfl, y, CC, dy, _, _, rfl, c1, c.cl, c.nG, cf_guests _ _ _ _ _, _, _, .tup a3 .nil, .tup c3 .nil, shaped_ti [], shaped_ti [], _, rfl, ?_⟩
    refine if_tr (eqv_ti [] []) ?_
    refine ⟨_, rfl, x, CC, dx, _, _, rfl, a1, c.cl, c.nR, cf_rows _ _ _ _ _, _, rfl, y, CC, dy, _, _, rfl, c1, c.cl, c.nR, cf_rows _ _ _ _ _, _, _, .tup a4 .nil, .tup c4 .nil, shaped_ti [], shaped_ti [], ?_⟩
    rw [show PyData.eqv (.tuple []) (.tuple []) = true from eqv_ti [] []]
    exact k
end
end J

set_option Elab.async false
set_option linter.all false
set_option maxRecDepth 100000
set_option maxHeartbeats 4000000
namespace J
open PySem PySem.Spec PyProof.Rows L2
/-! ### objects are made: Ties, Company -/
theorem made_same {H : Hp} {x dx : Addr} {o u : HO} (hx : H x = none) (hd : H dx = none) : Same H (upd (upd H dx o) x u) := fun b v e => by
  rw [upd_ne (ne_of_none e hx), upd_ne (ne_of_none e hd)]
  exact e
theorem made_but {H H' : Hp} {x dx : Addr} {o u : HO} (hx : H x = none) (hd : H dx = none) (B : ∀ b v, b ≠ x → (upd (upd H dx o) x u) b = some v → H' b = some v) : Same H H' := fun b v e => B b v (ne_of_none e hx) (made_same hx hd b v e)
theorem map_int_inj : ∀ {xs ys : List Int}, xs.map V.int = ys.map V.int → xs = ys
  | [], [], _ => rfl
  | [], _ :: _, h => by cases h
  | _ :: _, [], h => by cases h
  | x :: xs, y :: ys, h => by
    rw [List.map_cons, List.map_cons] at h
    injection h with h1 h2
    injection h1 with h1
    rw [h1, map_int_inj h2]
theorem mk_ties {C CB : Addr} {H : Hp} {E : XK} {R : Addr → VK} {ns : List Int} {v : V} {s : Sh} (hs : Is H v s) (g : GoodB ns) (hq : (s.isL || s.isT) = true) (hi : items s = ns.map V.int) (k : ∀ (H' : Hp) (x : Addr), Same H H' → H x = none → TiesAt C H' x ns → R x .non H') :
    ∀ x dx, H x = none → H dx = none → dx ≠ x → spTies C CB [.ref x, v] (upd (upd H dx (.own x)) x (.ins C dx [])) (R x) E := by
  intro x dx hx hd _
  have S := made_same (H := H) (o := .own x) (u := .ins C dx []) hx hd
  have dn : due s = none := by
    cases s with
    | sc u => cases hq
    | dk => cases hq
    | lst xs => have e : xs = ns.map V.int := hi; subst e; exact due_of g
    | tup xs => have e : xs = ns.map V.int := hi; subst e; exact due_of g
  refine ⟨x, dx, v, s, rfl, upd_same, hs.keep S, fun y hy => ?_, fun w e => ?_, fun ms _ e H' B T => ?_⟩
  · rw [hi] at hy
    obtain ⟨n, _, rfl⟩ := List.mem_map.mp hy
    exact ⟨.sc (.int n), rfl, rfl⟩
  · rw [dn] at e
    cases e
  · obtain rfl := map_int_inj (hi.symm.trans e)
    exact k H' x (made_but hx hd B) hx T
theorem rowW_ok {m n : Nat} {s : Sh} {ts : List Int} (sq : (s.isL || s.isT) = true) (hi : items s = ts.map V.int) (hl : ts.length = n) (hr : ∀ t ∈ ts, 0 ≤ t ∧ t < (m : Nat)) : rowW m n s = none := by
  unfold rowW
  rw [if_pos sq, hi, List.length_map, if_pos hl, if_pos]
  intro x hx
  obtain ⟨t, ht, rfl⟩ := List.mem_map.mp hx
  obtain ⟨a, b⟩ := hr t ht
  show (decide (0 ≤ t) && decide (t ≤ ((m : Nat) : Int) - 1)) = true
  rw [decide_eq_true a, decide_eq_true (by omega)]
  rfl
/-- rows as they are handed in: shapes of sequences that hold these ints -/
def ShRows (ss : List Sh) (tss : List (List Int)) : Prop := ss.length = tss.length ∧ ∀ (j : Nat) (s : Sh) (ts : List Int), ss[j]? = some s → tss[j]? = some ts → (s.isL || s.isT) = true ∧ items s = ts.map V.int
theorem due_good {m : Nat} {sg sr : Sh} {ss : List Sh} {is : List Int} {tss : List (List Int)} (qg : (sg.isL || sg.isT) = true) (qr : (sr.isL || sr.isT) = true) (hg : items sg = is.map V.int) (hr : (items sr).length = ss.length) (S : ShRows ss tss) (tl : tss.length = is.length)
    (l60 : is.length ≤ 60) (asc : Asc is) (labs : ∀ n ∈ is, 0 ≤ n ∧ n ≤ 1000000000) (R : Rows m tss) : dueC m sg sr ss = none := by
  have gl : (items sg).length = is.length := by rw [hg, List.length_map]
  refine due_ok (by rw [qg, qr]; rfl) (by omega) (fun j hj => ?_) (by have := S.1; omega)
  have hji : j < is.length := by omega
  have ij := List.getElem?_eq_getElem hji
  have tj := List.getElem?_eq_getElem (l := tss) (i := j) (by omega)
  have sj := List.getElem?_eq_getElem (l := ss) (i := j) (by have := S.1; omega)
  obtain ⟨q1, q2⟩ := S.2 j _ _ sj tj
  obtain ⟨r1, r2⟩ := R j _ tj
  have gj : (items sg)[j]? = some (.int is[j]) := by rw [hg, List.getElem?_map, ij]; rfl
  obtain ⟨b0, b1⟩ := labs _ (List.mem_of_getElem? ij)
  have wl : wholeB (.int is[j]) 0 1000000000 = true := by
    show (decide (0 ≤ is[j]) && decide (is[j] ≤ 1000000000)) = true
    rw [decide_eq_true b0, decide_eq_true b1]
    rfl
  have o : ordB (items sg) j = false := by
    cases j with
    | zero => exact ord_zero
    | succ j =>
      have ij' := List.getElem?_eq_getElem (l := is) (i := j) (by omega)
      rw [ord_ints (a := is[j]) (by rw [hg, List.getElem?_map, ij']; rfl) gj]
      have := asc j _ _ ij' ij
      exact decide_eq_false (by omega)
  rw [word_row gj wl o sj]
  exact rowW_ok q1 q2 r1 r2
theorem mk_comp {C CC CB : Addr} {H : Hp} {E : XK} {Rr : Addr → VK} {ns is : List Int} {tss : List (List Int)} {t : Addr} {g r : V} {sg sr : Sh} {ss : List Sh} (T : TiesAt C H t ns) (ig : Is H g sg) (ir : Is H r sr) (sa : ShAll H (items sr) ss) (qg : (sg.isL || sg.isT) = true) (qr : (sr.isL || sr.isT) = true) (hg : items sg = is.map V.int) (S : ShRows ss tss)
    (tl : tss.length = is.length) (l60 : is.length ≤ 60) (asc : Asc is) (labs : ∀ n ∈ is, 0 ≤ n ∧ n ≤ 1000000000) (R : Rows ns.length tss) (k : ∀ (H' : Hp) (x : Addr), Same H H' → H x = none → CompAt C CC H' x ns is tss → Rr x .non H') :
    ∀ x dx, H x = none → H dx = none → dx ≠ x → spCompI C CC CB [.ref x, .ref t, g, r] (upd (upd H dx (.own x)) x (.ins CC dx [])) (Rr x) E := by
  intro x dx hx hd _
  have SS := made_same (H := H) (o := .own x) (u := .ins CC dx []) hx hd
  have dn : dueC ns.length sg sr ss = none := due_good qg qr hg sa.len S tl l60 asc labs R
  refine ⟨x, dx, t, ns, g, r, sg, sr, ss, rfl, upd_same, T.keep SS, ig.keep SS, fun y hy => ?_, ir.keep SS, sa.keep SS, ?_, fun i u e => ?_, fun _ H' js uss B e1 _ e3 e4 c => ?_⟩
  · rw [hg] at hy
    obtain ⟨n, _, rfl⟩ := List.mem_map.mp hy
    exact ⟨.sc (.int n), rfl, rfl⟩
  · rw [hg, List.length_map]
    omega
  · rw [dn] at e
    cases e
  · obtain rfl := map_int_inj (hg.symm.trans e1)
    have eq : uss = tss := by
      refine List.ext_getElem (by omega) fun j h1 h2 => ?_
      have sj := List.getElem?_eq_getElem (l := ss) (i := j) (by have := S.1; omega)
      have q1 := e4 j _ _ sj (List.getElem?_eq_getElem h1)
      have q2 := (S.2 j _ _ sj (List.getElem?_eq_getElem h2)).2
      exact map_int_inj (q1.symm.trans q2)
    rw [eq] at c
    exact k H' x (made_but hx hd B) hx c
theorem mk_nob {K : PySem.W.Frag} {C CC : Addr} {H : Hp} {E : XK} {R : Addr → VK} {ns : List Int} {t g r : Addr} (T : TiesAt C H t ns) (hg : KT K g) (hr : KT K r) (k : ∀ (H' : Hp) (x : Addr), Same H H' → H x = none → NobAt K C CC H' x ns → R x .non H') :
    ∀ x dx, H x = none → H dx = none → dx ≠ x → spCompI0 K C CC [.ref x, .ref t, .ref g, .ref r] (upd (upd H dx (.own x)) x (.ins CC dx [])) (R x) E := by
  intro x dx hx hd _
  have SS := made_same (H := H) (o := .own x) (u := .ins CC dx []) hx hd
  exact ⟨x, dx, t, g, r, ns, rfl, upd_same, T.keep SS, hg, hr, fun H' B N => k H' x (made_but hx hd B) hx N⟩
/-! ### rows that are handed in: lists, tuples in a list -/
theorem ints_known {H : Hp} (ts : List Int) : Known H (ts.map V.int) := fun y hy => by
  obtain ⟨n, _, rfl⟩ := List.mem_map.mp hy
  exact ⟨.sc (.int n), rfl, rfl⟩
def shL (tss : List (List Int)) : List Sh := tss.map fun ts => .lst (ts.map V.int)
def shT (tss : List (List Int)) : List Sh := tss.map fun ts => .tup (ts.map V.int)
theorem shL_rows (tss : List (List Int)) : ShRows (shL tss) tss := by
  refine ⟨List.length_map _, fun j s ts e1 e2 => ?_⟩
  unfold shL at e1
  rw [List.getElem?_map, e2] at e1
  obtain rfl := Option.some.inj e1
  exact ⟨rfl, rfl⟩
theorem shT_rows (tss : List (List Int)) : ShRows (shT tss) tss := by
  refine ⟨List.length_map _, fun j s ts e1 e2 => ?_⟩
  unfold shT at e1
  rw [List.getElem?_map, e2] at e1
  obtain rfl := Option.some.inj e1
  exact ⟨rfl, rfl⟩
theorem shL_all {H : Hp} : ∀ {ps : List Addr} {tss : List (List Int)}, ps.length = tss.length → (∀ (j : Nat) (a : Addr) (ts : List Int), ps[j]? = some a → tss[j]? = some ts → H a = some (.lst (ts.map V.int))) → ShAll H (ps.map V.ref) (shL tss)
  | [], [], _, _ => .nil
  | [], _ :: _, h, _ => by cases h
  | _ :: _, [], h, _ => by cases h
  | p :: ps, t :: ts, h, f => .cons ⟨⟨p, rfl, f 0 p t rfl rfl⟩, ints_known t⟩ (shL_all (Nat.succ.inj h) fun j a b e1 e2 => f (j + 1) a b (by simpa using e1) (by simpa using e2))
theorem shT_all {H : Hp} : ∀ {ps : List Addr} {tss : List (List Int)}, ps.length = tss.length → (∀ (j : Nat) (a : Addr) (ts : List Int), ps[j]? = some a → tss[j]? = some ts → H a = some (.tup (ts.map V.int))) → ShAll H (ps.map V.ref) (shT tss)
  | [], [], _, _ => .nil
  | [], _ :: _, h, _ => by cases h
  | _ :: _, [], h, _ => by cases h
  | p :: ps, t :: ts, h, f => .cons ⟨⟨p, rfl, f 0 p t rfl rfl⟩, ints_known t⟩ (shT_all (Nat.succ.inj h) fun j a b e1 e2 => f (j + 1) a b (by simpa using e1) (by simpa using e2))
/-- a list of lists as data -/
def linesD (tss : List (List Int)) : List PyData := tss.map fun ts => .list (ts.map PyData.int)
theorem eqv_linesD : ∀ tss uss : List (List Int), PyData.eqvAll (linesD tss) (linesD uss) = decide (tss = uss)
  | [], [] => by simp [linesD, PyData.eqvAll]
  | [], u :: us => by simp [linesD, PyData.eqvAll]
  | t :: ts, [] => by simp [linesD, PyData.eqvAll]
  | t :: ts, u :: us => by
    have ih := eqv_linesD ts us
    have h1 := eqv_li t u
    show (PyData.eqv (.list (t.map PyData.int)) (.list (u.map PyData.int)) && PyData.eqvAll (linesD ts) (linesD us)) = _
    rw [h1, ih]
    by_cases h : t = u
    · by_cases h2 : ts = us
      · simp [h, h2]
      · simp [h, h2]
    · simp [h]
theorem lay_linesD : ∀ tss : List (List Int), PyData.canLayAll0 (linesD tss) = true ∧ PyData.depthAll (linesD tss) ≤ 2
  | [] => by simp [linesD, PyData.canLayAll0, PyData.depthAll]
  | t :: ts => by
    obtain ⟨a, b⟩ := lay_linesD ts
    have h1 := ints_lay t
    have h2 := ints_depth t
    refine ⟨?_, ?_⟩
    · show (PyData.canLay0 (.list (t.map PyData.int)) && PyData.canLayAll0 (linesD ts)) = true
      rw [a, Bool.and_true]
      simp only [PyData.canLay0]
      exact h1
    · show max (PyData.depth (.list (t.map PyData.int))) (PyData.depthAll (linesD ts)) ≤ 2
      simp only [PyData.depth]
      omega
theorem shaped_linesD (tss : List (List Int)) : SeqAt.shaped (.list (linesD tss)) = true := by
  obtain ⟨a, b⟩ := lay_linesD tss
  show (PyData.canLay0 (.list (linesD tss)) && decide (PyData.depth (.list (linesD tss)) ≤ 64)) = true
  rw [Bool.and_eq_true]
  refine ⟨by simp only [PyData.canLay0]; exact a, decide_eq_true ?_⟩
  simp only [PyData.depth]
  omega
theorem eqv_lines (tss uss : List (List Int)) : PyData.eqv (.list (linesD tss)) (.list (linesD uss)) = decide (tss = uss) := by
  rw [show PyData.eqv (.list (linesD tss)) (.list (linesD uss)) = PyData.eqvAll (linesD tss) (linesD uss) by simp only [PyData.eqv], eqv_linesD]
theorem dp_linesD {K : PySem.W.Frag} {H : Hp} : ∀ {ps : List Addr} {tss : List (List Int)}, ps.length = tss.length → (∀ (j : Nat) (a : Addr) (ts : List Int), ps[j]? = some a → tss[j]? = some ts → H a = some (.lst (ts.map V.int))) → DpAll K H (ps.map V.ref) (linesD tss)
  | [], [], _, _ => .nil
  | [], _ :: _, h, _ => by cases h
  | _ :: _, [], h, _ => by cases h
  | p :: ps, t :: ts, h, f => .cons (.lst (SqL.of (f 0 p t rfl rfl)) (dp_ints t)) (dp_linesD (Nat.succ.inj h) fun j a b e1 e2 => f (j + 1) a b (by simpa using e1) (by simpa using e2))
theorem LinesAt.dp {K : PySem.W.Frag} {H : Hp} {l : Addr} {ps : List Addr} {tss : List (List Int)} (L : LinesAt H l ps tss) : Dp K H (.ref l) (.list (linesD tss)) := .lst (SqL.of L.1) (dp_linesD L.2.1 fun j a ts e1 e2 => (L.2.2 j a ts e1 e2).2)
theorem LinesAt.sh {H : Hp} {l : Addr} {ps : List Addr} {tss : List (List Int)} (L : LinesAt H l ps tss) : ShAll H (ps.map V.ref) (shL tss) := shL_all L.2.1 fun j a ts e1 e2 => (L.2.2 j a ts e1 e2).2
end J

set_option Elab.async false
set_option linter.all false
set_option maxRecDepth 100000
set_option maxHeartbeats 4000000
namespace J
open PySem PySem.Spec PyProof.Rows L2
abbrev rLst (K : PySem.W.Frag) : List V → Hp → VK → Prop := fun xs H Q => ∃ p ys, xs = [.ref p] ∧ (SqL K H p ys ∨ SqT K H p ys) ∧ ∀ l, H l = none → Q (.ref l) (upd H l (.lst ys))
abbrev s_law : Stmt := top 36
theorem sc_law : FnScope ["_law_script", "_law_hand_here", "_law_made", "_law_turn", "_law_backs_here", "_law_many", "_law_labels_here", "_law_rows", "_law_guests", "_law_lines", "_law_company", "_law_line", "_law_same", "_law_one", "_law_other", "_law_nobody", "_law_row"] ["_law_script"] (defScope s_law) := ⟨rfl, rfl, rfl, by decide +kernel, rfl, by decide +kernel, by decide +kernel⟩

def spLaw (K : PySem.W.Frag) : Sp := fun vs H Q _ => ∃ (a : Addr) (ns : List Int), vs = [.ref a] ∧ SqL K H a (ns.map V.int) ∧ ns.length ≤ 63 ∧ ∀ H', Q (.bl true) H'
structure CoZ (K : PySem.W.Frag) (mg : Str → Option Value) (C : Addr) : Prop extends CoX K mg C where
  nf : PySem.W.notFirst K C (.type "tuple") = true
theorem CompAt.fr {C CC : Addr} {H H' : Hp} {x : Addr} {ns is : List Int} {tss : List (List Int)} (c : CompAt C CC H x ns is tss) (one : ∀ (a : Addr) (o : HO), (∀ zs, o ≠ .lst zs) → H a = some o → H' a = some o) : CompAt C CC H' x ns is tss := by
  obtain ⟨dx, t, g, r, b, p, ps, kvs, a1, ⟨d1, tb, w1, w2⟩, a3, ⟨r1, r2, r3⟩, ⟨us, u1, u2, u3⟩, a6, a7⟩ := c
  refine ⟨dx, t, g, r, b, p, ps, kvs, one _ _ (fun _ z => by cases z) a1, ⟨d1, tb, one _ _ (fun _ z => by cases z) w1, one _ _ (fun _ z => by cases z) w2⟩, one _ _ (fun _ z => by cases z) a3, ⟨one _ _ (fun _ z => by cases z) r1, r2, fun j a ts e1 e2 => ?_⟩, ⟨us, one _ _ (fun _ z => by cases z) u1, u2, fun a u e => ?_⟩, one _ _ (fun _ z => by cases z) a6, a7⟩
  · obtain ⟨q1, q2⟩ := r3 j a ts e1 e2
    exact ⟨one _ _ (fun _ z => by cases z) q1, q2⟩
  · obtain ⟨xs, q1, q2⟩ := u3 a u e
    exact ⟨xs, one _ _ (fun _ z => by cases z) q1, q2⟩
/-- copies of rows that are being made: new objects, put into the list at D -/
structure Cop (f : List Int → HO) (H7 H8 : Hp) (D : Addr) (cs : List Addr) (tss : List (List Int)) : Prop where
  S : Same H7 H8
  n : H7 D = none
  d : H8 D = some (.lst (cs.map V.ref))
  a : ∀ (n : Nat) (a : Addr) (ts : List Int), cs[n]? = some a → tss[n]? = some ts → H7 a = none ∧ a ≠ D ∧ H8 a = some (f ts)
theorem Cop.nil {f : List Int → HO} {H7 : Hp} {D : Addr} {tss : List (List Int)} (hD : H7 D = none) : Cop f H7 (upd H7 D (.lst [])) D [] tss := ⟨new_same hD, hD, upd_same, fun n a ts e => by simp at e⟩
theorem same_free {H H' : Hp} {a : Addr} (S : Same H H') (e : H' a = none) : H a = none := by
  cases q : H a with
  | none => rfl
  | some o =>
    have := S _ _ q
    rw [e] at this
    cases this
theorem Cop.snoc {f : List Int → HO} {H7 H8 : Hp} {D z : Addr} {cs : List Addr} {ts : List Int} {tss : List (List Int)} (c : Cop f H7 H8 D cs tss) (hz : H8 z = none) (ets : tss[cs.length]? = some ts) : Cop f H7 (upd (upd H8 z (f ts)) D (.lst (cs.map V.ref ++ [.ref z]))) D (cs ++ [z]) tss := by
  have nz : z ≠ D := (ne_of_none c.d hz).symm
  refine ⟨fun b o e => ?_, c.n, by rw [upd_same, List.map_append]; rfl, fun n a us e1 e2 => ?_⟩
  · rw [upd_ne (ne_of_none e c.n), upd_ne (ne_of_none (c.S _ _ e) hz)]
    exact c.S _ _ e
  · rcases Nat.lt_or_ge n cs.length with hn | hn
    · rw [List.getElem?_append_left hn] at e1
      obtain ⟨q1, q2, q3⟩ := c.a n a us e1 e2
      exact ⟨q1, q2, by rw [upd_ne q2, upd_ne (ne_of_none q3 hz)]; exact q3⟩
    · have hn2 : n = cs.length := by
        have := (List.getElem?_eq_some_iff.mp e1).1
        rw [List.length_append] at this
        have l : [z].length = 1 := rfl
        omega
      subst hn2
      rw [List.getElem?_append_right (Nat.le_refl _), Nat.sub_self] at e1
      obtain rfl : z = a := Option.some.inj e1
      rw [ets] at e2
      obtain rfl := Option.some.inj e2
      exact ⟨same_free c.S hz, nz, by rw [upd_ne nz, upd_same]⟩
def lstO (ts : List Int) : HO := .lst (ts.map V.int)
def tupO (ts : List Int) : HO := .tup (ts.map V.int)
/-- what is kept of a turn -/
structure Mem where
  T : Addr
  x : Addr
  b : Addr
  lb : Addr
  l : Addr
  ns : List Int
  is : List Int
  ps : List Addr
  tss : List (List Int)
structure MemAt (C CC h ml : Addr) (H : Hp) (m : Mem) : Prop where
  t : H m.T = some (.tup [.ref m.x, .ref m.b, .ref m.lb, .ref m.l])
  c : CompAt C CC H m.x m.ns m.is m.tss
  b : H m.b = some (.lst (m.ns.map V.int))
  g : GoodB m.ns
  lb : H m.lb = some (.lst (m.is.map V.int))
  l : LinesAt H m.l m.ps m.tss
  b1 : m.b ≠ h
  b2 : m.b ≠ ml
  lb1 : m.lb ≠ h
  lb2 : m.lb ≠ ml
  l1 : m.l ≠ h
  l2 : m.l ≠ ml
  p : ∀ a ∈ m.ps, a ≠ h ∧ a ≠ ml
theorem MemAt.fr {C CC h ml : Addr} {H H' : Hp} {m : Mem} {ys zs : List V} (M : MemAt C CC h ml H m) (e1 : H h = some (.lst ys)) (e2 : H ml = some (.lst zs)) (B : ∀ b o, b ≠ h → b ≠ ml → H b = some o → H' b = some o) : MemAt C CC h ml H' m := by
  have one : ∀ (a : Addr) (o : HO), (∀ zs, o ≠ .lst zs) → H a = some o → H' a = some o := fun a o n e => B _ _ (ne_of e e1 (n _)) (ne_of e e2 (n _)) e
  refine ⟨one _ _ (fun _ z => by cases z) M.t, M.c.fr one, B _ _ M.b1 M.b2 M.b, M.g, B _ _ M.lb1 M.lb2 M.lb, ⟨B _ _ M.l1 M.l2 M.l.1, M.l.2.1, fun j a ts q1 q2 => ?_⟩, M.b1, M.b2, M.lb1, M.lb2, M.l1, M.l2, M.p⟩
  obtain ⟨w1, w2⟩ := M.l.2.2 j a ts q1 q2
  obtain ⟨n1, n2⟩ := M.p a (List.mem_of_getElem? q1)
  exact ⟨w1, B _ _ n1 n2 w2⟩
abbrev s_Lsays : Stmt := top 23
theorem sc_Lsays : FnScope ["_law_told_here", "_law_due"] ["_law_told_here", "_law_due"] (defScope s_Lsays) := ⟨rfl, rfl, rfl, by decide +kernel, rfl, by decide +kernel, by decide +kernel⟩
def spSays : Sp := fun vs H Q _ => ∃ (a b : Bool), vs = [.bl a, .bl b] ∧ Q (.bl (decide (a = b))) H
theorem good01 : GoodB [0, 1] := by
  refine ⟨by decide, by decide, by decide, fun k b e => ?_⟩
  rcases k with _ | _ | k
  · obtain rfl := Option.some.inj e; rfl
  · obtain rfl := Option.some.inj e; rfl
  · simp at e
theorem good10 : GoodB [1, 0] := by
  refine ⟨by decide, by decide, by decide, fun k b e => ?_⟩
  rcases k with _ | _ | k
  · obtain rfl := Option.some.inj e; rfl
  · obtain rfl := Option.some.inj e; rfl
  · simp at e
section
variable {P : Program} {w : World} {K : PySem.W.Frag} {mg : Str → Option Value} {base : Heap}
theorem ok_Lsays {f : Addr} {fd : FuncData} (F : Fun K "_law_says" "_law_says" s_Lsays f fd) (ns : mg "isinstance" = none) (nb : mg "bool" = none) : FnOk P w K mg base CX0 1 f fd ["_law_told_here", "_law_due"] spSays := by
  refine F.ok sc_Lsays (fun vs H Q E h => ?_) (fun cdv A outer s H vs Q E hr h => ?_)
  · obtain ⟨a, b, rfl, _⟩ := h
    rfl
  · obtain ⟨a, b, rfl, k⟩ := h
    refine ⟨_, (pss_one 
  (ps_ret (pe_and (pe_callB call_isi (by rfl) ns (by decide +kernel) (pa_cons (pv 0) (pa_cons (pe_bltn (by rfl) nb (by decide +kernel) (v := .ty "bool") rfl) pa_nil))) (pe_one (pe_cmpR op_eq (pv 0) (pv 1) (nomark _)))))), ?_⟩
    refine ⟨_, rfl, _, _, _, _, true, rfl, .ty "bool", .base (.bl a), kit_ty (by decide +kernel), _, rfl, if_tr rfl ⟨_, rfl, _, rfl, rfl, ?_⟩⟩
    have e : decide (V.bl a = V.bl b) = decide (a = b) := by cases a <;> cases b <;> rfl
    rw [e]
    exact k
theorem ok_law {f C CC CB CE g0 r0 fH fD fK fL fA fR fS fY fI fJ fE fLn : Addr} {fd fdH fdD fdK fdL fdA fdR fdS fdY fdI fdJ fdE fdLn : FuncData} {ds : List Value} (F : Fun K "law" "law" s_law f fd) (nl : mg "len" = none) (nli : mg "list" = none) (nt : mg "tuple" = none) (nr : mg "range" = none) (mG : ∃ t, mg "MOST_GUESTS" = some (.int 60 t))
    (GH : Cal P w K mg base CX0 1 "_law_hand" fH fdH ["_law_script"] (spHand K)) (GD : Cal P w K mg base CX0 2 "_law_draw" fD fdD ["_law_hand_here", "_law_many"] spDraw) (GK : Cal P w K mg base CX0 3 "_law_backs" fK fdK ["_law_hand_here", "_law_many"] spBacks)
    (GL : Cal P w K mg base CX0 3 "_law_labels" fL fdL ["_law_hand_here", "_law_many"] spLabels) (GA : Cal P w K mg base CX0 3 "_law_any_rows" fA fdA ["_law_hand_here", "_law_backs_here", "_law_many"] spAny)
    (GR : Cal P w K mg base CX0 7 "_law_right" fR fdR ["_law_company", "_law_backs_here", "_law_labels_here", "_law_rows"] (spRight2 C CC)) (GS : Cal P w K mg base CX0 7 "_law_strangers" fS fdS ["_law_hand_here", "_law_company", "_law_labels_here"] (spStr C CC)) (GY : Cal P w K mg base CX0 1 "_law_says" fY fdY ["_law_told_here", "_law_due"] spSays)
    (mT : mg "Ties" = some (.ref C)) (mC : mg "Company" = some (.ref CC)) (MI : Mk K C fI) (FI : FnOk P w K mg base (L2.CX P w) 4 fI fdI ["self", "backs"] (spTies C CB)) (bI : Binds K fdI ["self", "backs"] [])
    (MJ : Mk K CC fJ) (FJ : FnOk P w K mg base (L2.CX P w) 5 fJ fdJ ["self", "ties", "guests", "rows"] (spCompI C CC CE)) (bJ : Binds K fdJ ["self", "ties", "guests", "rows"] [])
    (FJ0 : FnOk P w K mg base (L2.CX P w) 5 fJ fdJ ["self", "ties", "guests", "rows"] (spCompI0 K C CC)) (bJ0 : Binds K fdJ ["self", "ties", "guests", "rows"] ds) (vJ0 : Vals [V.ref g0, V.ref r0] ds) (kg0 : KT K g0) (kr0 : KT K r0)
    (c : CoZ K mg CC) (FE : FnOk P w K mg base CX0 2 fE fdE ["self", "other"] (spCEq C CC)) (FE0 : FnOk P w K mg base CX0 2 fE fdE ["self", "other"] (spCEqN K C CC)) (aE : PySem.W.findIn K (.ref CC) "__eq__" = some (some (.ref fE))) (iE : PySem.W.isFn K (.ref fE) = true) (bE : Binds K fdE ["self", "other"] [])
    (FL0 : FnOk P w K mg base CX0 1 fLn fdLn ["self"] (spLenN K C CC)) (aL : PySem.W.findIn K (.ref CC) "__len__" = some (some (.ref fLn))) (iL : PySem.W.isFn K (.ref fLn) = true) (bL : Binds K fdLn ["self"] []) : FnOk P w K mg base CX0 8 f fd ["_law_script"] (spLaw K) := by
  obtain ⟨tG, mG⟩ := mG
  refine F.ok sc_law (fun vs H Q E h => ?_) (fun cdv A outer s H vs Q E hr h => ?_)
  · obtain ⟨a, ns, rfl, _⟩ := h
    rfl
  · obtain ⟨a, ns, rfl, hS, hn, k⟩ := h
    have hr5 : Room 5 _ := hr.mono (by decide)
    have hr6 : Room 6 _ := hr.mono (by decide)
    have hr2 : Room 2 _ := hr.mono (by decide)
    have hr1 : Room 1 _ := hr.mono (by decide)
    refine ⟨_, (pss_cons 
  (ps_set (i := 1) sc_law.nd rfl (Or.inl rfl) (pcal GH hr pass0 (pa_cons (pv 0) pa_nil))) (pss_cons 
  (ps_set (i := 2) sc_law.nd rfl (Or.inl rfl) (pe_lst pa_nil)) (pss_cons 
  (ps_for PassesOwn.never rfl (pi_range1 (by rfl) nr (pa_cons pe_int pa_nil)) (pg_name (i := 3) sc_law.nd rfl (Or.inl rfl)) (pss_cons 
    (ps_set (i := 4) sc_law.nd rfl (Or.inl rfl) (pcal GK hr pass0 (pa_cons (pv 1) (pa_cons (pe_op op_add pe_int (pcal GD hr pass0 (pa_cons (pv 1) (pa_cons pe_int pa_nil)))) pa_nil)))) (C8.pss_cut 
    (ps_set (i := 5) sc_law.nd rfl (Or.inl rfl) (pe_ifExp (pt_cmpR op_gt (pcal GD hr pass0 (pa_cons (pv 1) (pa_cons pe_int pa_nil))) pe_int (nomark _)) (pcal GD hr pass0 (pa_cons (pv 1) (pa_cons pe_int pa_nil))) (pe_op op_add pe_int (pcal GD hr pass0 (pa_cons (pv 1) (pa_cons pe_int pa_nil)))))) (pss_cons 
    (ps_set (i := 6) sc_law.nd rfl (Or.inl rfl) (pcal GL hr pass0 (pa_cons (pv 1) (pa_cons (pv 5) pa_nil)))) (pss_cons 
    (ps_set (i := 7) sc_law.nd rfl (Or.inl rfl) (pcal GA hr pass0 (pa_cons (pv 1) (pa_cons (pv 4) (pa_cons (pv 5) pa_nil))))) (pss_cons 
    (ps_set (i := 8) sc_law.nd rfl (Or.inl rfl) (pe_callTy call_list_of (by rfl) nli (by decide +kernel) (pa_cons (pv 6) pa_nil))) (pss_cons 
    (ps_setLc (i := 9) (own := [("_law_row", 16)]) (g := gName 16) rfl sc_law.nd rfl rfl (sw_true rfl rfl rfl (by decide +kernel)) (pi_list (pv 7)) (blkOk_by (own := [("_law_row", 16)]) (N := ["_law_script", "_law_hand_here", "_law_made", "_law_turn", "_law_backs_here", "_law_many", "_law_labels_here", "_law_rows", "_law_guests", "_law_lines", "_law_company", "_law_line", "_law_same", "_law_one", "_law_other", "_law_nobody", "_law_row"]) (sc := defScope s_law) (by decide +kernel)) (fun _ _ _ _ _ => pg_name (i := 16) sc_law.nd rfl (Or.inl rfl)) (fun _ _ _ _ _ => pts_nil) (fun _ _ _ _ _ => (pe_callTy (T := "list") (r := rLst K) call_list_of (by rfl) nli (by decide +kernel) (pa_cons (pv 16) pa_nil)))) (pss_cons 
    (ps_set (i := 10) sc_law.nd rfl (Or.inl rfl) (pe_make MJ FJ hr6 rfl mC bJ .nil passL (pa_cons (pe_make MI FI hr5 rfl mT bI .nil passL (pa_cons (pv 4) pa_nil)) (pa_cons (pv 8) (pa_cons (pv 9) pa_nil))))) (pss_cons 
    (ps_if (PW.pt (pw_or (pt_cmpR (op_neD hr.units) (pv 8) (pv 6) (nomark _)) (pw_or (pt_cmpR (op_neD hr.units) (pv 9) (pv 7) (nomark _)) (pw_or1 (pt_not (pt_val (pcal GR hr pass0 (pa_cons (pv 10) (pa_cons (pv 4) (pa_cons (pv 6) (pa_cons (pv 7) pa_nil))))))))))) (pss_one 
      (ps_ret pe_bl)) pss_nil) (pss_cons 
    (ps_expr (pe_bm PySem.F.plainAttrs_list PySem.F.slot_list_append PySem.F.type_list_append mt_append (pv 2) (pa_cons (pe_tup (pa_cons (pv 10) (pa_cons (pv 4) (pa_cons (pv 6) (pa_cons (pv 7) pa_nil))))) pa_nil))) (C8.pss_cut 
    (ps_if (pt_cmpR op_gt (pv 5) pe_int (nomark _)) (pss_cons 
      (ps_asg (pe_lst pa_nil) (pg_sub (pv 9) (pe_op op_sub (pv 5) pe_int) set_list)) (pss_cons 
      (ps_asg pe_int (pg_sub (pv 8) pe_int set_list)) (pss_cons 
      (ps_set (i := 11) sc_law.nd rfl (Or.inl rfl) (pe_ix ix_list (pv 9) pe_int (fun _ _ => rfl))) (pss_one 
      (ps_if (pt_cmpR (op_neE hr.units) (pv 11) (pe_lst pa_nil) (nomark _)) (pss_one 
        (ps_asg pe_int (pg_sub (pv 11) pe_int set_list))) pss_nil))))) pss_nil) (pss_cons 
    (ps_set (i := 12) sc_law.nd rfl (Or.inl rfl) (pe_make MJ FJ hr6 rfl mC bJ .nil passL (pa_cons (pe_make MI FI hr5 rfl mT bI .nil passL (pa_cons (pe_callTy call_tuple_of (by rfl) nt (by decide +kernel) (pa_cons (pv 4) pa_nil)) pa_nil)) (pa_cons (pe_callTy call_tuple_of (by rfl) nt (by decide +kernel) (pa_cons (pv 6) pa_nil)) (pa_cons (pe_lc (own := [("_law_row", 16)]) (g := gName 16) (by rfl) sc_law.nd (pi_list (pv 7)) (blkOk_by (own := [("_law_row", 16)]) (N := ["_law_script", "_law_hand_here", "_law_made", "_law_turn", "_law_backs_here", "_law_many", "_law_labels_here", "_law_rows", "_law_guests", "_law_lines", "_law_company", "_law_line", "_law_same", "_law_one", "_law_other", "_law_nobody", "_law_row"]) (sc := defScope s_law) (by decide +kernel)) (fun _ _ _ _ _ => pg_name (i := 16) sc_law.nd rfl (Or.inl rfl)) (fun _ _ _ _ _ => pts_nil) (fun _ _ _ _ _ => (pe_callTy (T := "tuple") (r := rTup K) call_tuple_of (by rfl) nt (by decide +kernel) (pa_cons (pv 16) pa_nil)))) pa_nil))))) (pss_one 
    (ps_if (PW.pt (pw_or (pt_not (pt_val (pcal GR hr pass0 (pa_cons (pv 12) (pa_cons (pv 4) (pa_cons (pv 6) (pa_cons (pv 7) pa_nil))))))) (pw_or1 (pt_cmpR op_isnot_bl (pe_cmpR (op_eqOwn FE aE iE bE pass0 hr2 c.nf) (pv 10) (pv 12) (nomark _)) pe_bl (nomark _))))) (pss_one 
      (ps_ret pe_bl)) pss_nil)))))))))))))) (pss_cons 
  (ps_for PassesOwn.never rfl (pi_list (pv 2)) (pg_tup (by rfl) (pgs_cons (pg_name (i := 10) sc_law.nd rfl (Or.inl rfl)) (pgs_cons (pg_name (i := 4) sc_law.nd rfl (Or.inl rfl)) (pgs_cons (pg_name (i := 6) sc_law.nd rfl (Or.inl rfl)) (pgs_cons (pg_name (i := 7) sc_law.nd rfl (Or.inl rfl)) pgs_nil))))) (pss_one 
    (ps_if (PW.pt (pw_or (pt_not (pt_val (pcal GR hr pass0 (pa_cons (pv 10) (pa_cons (pv 4) (pa_cons (pv 6) (pa_cons (pv 7) pa_nil))))))) (pw_or1 (pt_not (pt_val (pcal GS hr pass0 (pa_cons (pv 1) (pa_cons (pv 10) (pa_cons (pv 6) pa_nil))))))))) (pss_one 
      (ps_ret pe_bl)) pss_nil))) (pss_cons 
  (ps_par (i := 13) (j := 14) rfl sc_law.nd rfl rfl (by decide) rfl rfl (pa_cons (pe_ix ix_list (pv 2) pe_int (fun _ _ => rfl)) (pa_cons (pe_ix ix_list (pv 2) pe_int (fun _ _ => rfl)) pa_nil)) rfl) (C8.pss_cut 
  (ps_if (pt_not (pt_val (pcal GY hr pass0 (pa_cons (pe_cmpR (op_eqOwn FE aE iE bE pass0 hr2 c.nf) (pe_ix ix_tup (pv 13) pe_int (fun _ _ => rfl)) (pe_ix ix_tup (pv 14) pe_int (fun _ _ => rfl)) (nomark _)) (pa_cons (pe_and (pe_cmpR (op_eqD hr.units) (pe_ix ix_tup (pv 13) pe_int (fun _ _ => rfl)) (pe_ix ix_tup (pv 14) pe_int (fun _ _ => rfl)) (nomark _)) (pe_and (pe_cmpR (op_eqD hr.units) (pe_ix ix_tup (pv 13) pe_int (fun _ _ => rfl)) (pe_ix ix_tup (pv 14) pe_int (fun _ _ => rfl)) (nomark _)) (pe_one (pe_cmpR (op_eqD hr.units) (pe_ix ix_tup (pv 13) pe_int (fun _ _ => rfl)) (pe_ix ix_tup (pv 14) pe_int (fun _ _ => rfl)) (nomark _))))) pa_nil))))) (pss_one 
    (ps_ret pe_bl)) pss_nil) (pss_cons 
  (ps_set (i := 15) sc_law.nd rfl (Or.inl rfl) (pe_make MJ FJ0 hr6 rfl mC bJ0 vJ0 passL (pa_cons (pe_make MI FI hr5 rfl mT bI .nil passL (pa_cons (pe_lst (pa_cons pe_int (pa_cons pe_int pa_nil))) pa_nil)) pa_nil))) (pss_cons 
  (ps_if (PW.pt (pw_or (pt_cmpR op_ne (pe_callB (call_lenOwn (E := E0) FL0 aL iL bL hr2) (by rfl) nl PySem.boot_len (pa_cons (pv 15) pa_nil)) pe_int (nomark _)) (pw_or (pt_cmpR (op_neD hr.units) (pe_fld (pv 15) rfl) (pe_tup pa_nil) (nomark _)) (pw_or (pt_cmpR (op_neD hr.units) (pe_fld (pv 15) rfl) (pe_tup pa_nil) (nomark _)) (pw_or1 (pt_cmpR (op_eqOwn FE0 aE iE bE pass0 hr2 c.nf) (pv 15) (pe_make MJ FJ0 hr6 rfl mC bJ0 vJ0 passL (pa_cons (pe_make MI FI hr5 rfl mT bI .nil passL (pa_cons (pe_lst (pa_cons pe_int (pa_cons pe_int pa_nil))) pa_nil)) pa_nil)) (nomark _))))))) (pss_one 
    (ps_ret pe_bl)) pss_nil) (pss_one 
  (ps_ret (pe_and (pe_cmpR (op_eqOwn FE0 aE iE bE pass0 hr2 c.nf) (pv 15) (pe_make MJ FJ hr6 rfl mC bJ .nil passL (pa_cons (pe_make MI FI hr5 rfl mT bI .nil passL (pa_cons (pe_lst (pa_cons pe_int (pa_cons pe_int pa_nil))) pa_nil)) (pa_cons (pe_lst pa_nil) (pa_cons (pe_tup pa_nil) pa_nil)))) (nomark _)) (pe_one (pe_cmpR op_eq (pe_glob (v := .int 60) rfl mG ⟨_, rfl⟩) pe_int (nomark _)))))))))))))), ?_⟩
    refine ⟨_, rfl, a, ns, rfl, hS, hn, fun Ha h q S0 hh0 hq0 hh => ?_⟩
    refine ⟨Nat.zero_le _, fun ml hml => ?_⟩
    obtain ⟨nhm, nqm⟩ := hh.h_ne hml
    refine ⟨2, rfl, by decide, by decide, for_range (lo := 0) (n := 2) (fun i σ H' => ∃ (v3 v4 v5 v6 v7 v8 v9 v10 v11 v12 : Option V) (ms : List Mem), σ = [some (.ref a), some (.ref h), some (.ref ml), v3, v4, v5, v6, v7, v8, v9, v10, v11, v12, none, none, none, none] ∧ Hand H' h q ∧ H' ml = some (.lst (ms.map fun m => V.ref m.T)) ∧ ms.length = i ∧ ∀ m ∈ ms, MemAt C CC h ml H' m)
      ⟨none, none, none, none, none, none, none, none, none, none, [], rfl, hh.new hml, upd_same, rfl, (fun y hy => nomatch hy)⟩ ?_ ?_⟩
    · rintro i σ H1 hi ⟨v3, v4, v5, v6, v7, v8, v9, v10, v11, v12, ms, rfl, h1, em, lm, mem⟩
      obtain ⟨cs1, i1, r1, t1, eh1, _⟩ := id h1
      -- backs
      refine ⟨_, rfl, _, rfl, h, q, 3, rfl, by decide, by decide, h1, fun d H2 d0 d3 b2 h2 => ⟨_, _, rfl, rfl, h, q, 2 + d, rfl, by omega, by omega, h2, fun bs b H3 _ gb b3 nb eb h3 => ?_⟩⟩
      have B13 : But h H1 H3 := b2.trans b3
      obtain ⟨nbh, _⟩ := h2.same_h' nb
      have f_b : H1 b = none := b2.free nbh nb
      have nbm : b ≠ ml := (ne_of_none em f_b).symm
      -- many
      refine ⟨fun σ' H' => ∃ m : Nat, σ' = [some (.ref a), some (.ref h), some (.ref ml), some (.int (0 + (i : Nat))), some (.ref b), some (.int (m : Nat)), v6, v7, v8, v9, v10, v11, v12, none, none, none, none] ∧ m ≤ 60 ∧ Hand H' h q ∧ But h H3 H', ?_, ?_⟩
      · refine ⟨_, rfl, h, q, 12, rfl, by decide, by decide, h3, fun c H4 c0 c12 b4 h4 => ⟨_, _, rfl, rfl, _, rfl, ?_⟩⟩
        refine ifD (fun cc => ?_) (fun cc => ?_)
        · refine ⟨_, rfl, h, q, 10, rfl, by decide, by decide, h4, fun m H5 m0 m10 b5 h5 => ⟨m.toNat, ?_, by omega, h5, b4.trans b5⟩⟩
          rw [Int.toNat_of_nonneg m0]
          rfl
        · refine ⟨_, rfl, h, q, 31, rfl, by decide, by decide, h4, fun m H5 m0 m31 b5 h5 => ⟨_, _, rfl, rfl, (30 + m).toNat, ?_, by omega, h5, b4.trans b5⟩⟩
          rw [Int.toNat_of_nonneg (by omega)]
          rfl
      rintro σ4 H4 ⟨m, rfl, m60, h4, b34⟩
      have B14 := B13.trans b34
      have eb4 := b34 _ _ nbh eb
      -- labels
      refine ⟨_, rfl, _, rfl, h, q, m, rfl, by omega, h4, fun H5 lb is il asc labs b5 h5 nlb elb => ?_⟩
      obtain ⟨nlh, _⟩ := h4.same_h' nlb
      have eb5 := b5 _ _ nbh eb4
      -- rows
      refine ⟨_, rfl, _, rfl, _, rfl, h, q, b, bs, m, rfl, by omega, eb5, nbh, by have := gb.lo; omega, gb.hi, h5, fun H6 l ps tss tl R b6 h6 nl fr nd L => ?_⟩
      obtain ⟨nlh2, _⟩ := h5.same_h' nl
      have eb6 := b6 _ _ nbh eb5
      have elb6 := b6 _ _ nlh elb
      have B16 := (B14.trans b5).trans b6
      have em6 := B16 _ _ nhm.symm em
      have f_lb : H1 lb = none := B14.free nlh nlb
      have f_l : H1 l = none := (B14.trans b5).free nlh2 nl
      have f_ps : ∀ a ∈ ps, H1 a = none := fun a ha => (B14.trans b5).free (fr a ha).2 (fr a ha).1
      have nlbm : lb ≠ ml := (ne_of_none em f_lb).symm
      have nlm : l ≠ ml := (ne_of_none em f_l).symm
      have npm : ∀ a ∈ ps, a ≠ ml := fun a ha => (ne_of_none em (f_ps a ha)).symm
      have pl : ps.length = tss.length := L.2.1
      have tli : tss.length = is.length := by omega
      have i60 : is.length ≤ 60 := by omega
      -- guests
      refine ⟨_, rfl, lb, _, rfl, .inl (SqL.of elb6), fun g hg => ?_⟩
      have T7 : Same H6 (upd H6 g (.lst (is.map V.int))) := new_same hg
      have eg7 : (upd H6 g (.lst (is.map V.int))) g = some (.lst (is.map V.int)) := upd_same
      generalize upd H6 g (.lst (is.map V.int)) = H7 at T7 eg7
      have L7 := L.keep T7
      -- lines
      refine ⟨_, rfl, l, rfl, ⟨_, SqL.of L7.1⟩, fun D hD => ?_⟩
      refine lc_list (K := K) (a := l) (xs := ps.map V.ref) (fun j H8 => ∃ cs : List Addr, cs.length = j ∧ Cop lstO H7 H8 D cs tss) ⟨[], rfl, .nil hD⟩ (fun j H8 _ ⟨_, _, C8⟩ => SqL.of (C8.S _ _ L7.1)) ?_ ?_
      · rintro j y H8 hy ⟨cs, cl, C8⟩
        have hjp : j < ps.length := by
          have := (List.getElem?_eq_some_iff.mp hy).1
          rwa [List.length_map] at this
        have ea := List.getElem?_eq_getElem hjp
        have ets := List.getElem?_eq_getElem (l := tss) (i := j) (by omega)
        obtain ⟨_, e3⟩ := L7.2.2 j _ _ ea ets
        obtain rfl : V.ref ps[j] = y := by
          rw [List.getElem?_map, ea] at hy
          exact Option.some.inj hy
        refine ⟨rfl, yesT ?_⟩
        refine ⟨_, rfl, ps[j], _, rfl, .inl (SqL.of (C8.S _ _ e3)), fun z hz => ?_⟩
        refine ⟨_, new_same hz _ _ C8.d, by rw [List.length_map]; exact small1000 (by omega), cs ++ [z], by rw [List.length_append, cl]; rfl, C8.snoc hz (by rw [cl]; exact ets)⟩
      rintro H8 ⟨cs, cl, C8⟩
      rw [List.length_map] at cl
      have S68 := T7.trans C8.S
      -- company
      have call : ∀ (n : Nat) (a : Addr) (ts : List Int), cs[n]? = some a → tss[n]? = some ts → H8 a = some (.lst (ts.map V.int)) := fun n a ts e1 e2 => (C8.a n a ts e1 e2).2.2
      refine ⟨_, rfl, mk_ties (s := .lst (bs.map V.int)) ⟨b, rfl, S68 _ _ eb6⟩ gb rfl rfl fun H9 t S9 nt TT => ⟨rfl, _, rfl, _, rfl, mk_comp (sg := .lst (is.map V.int)) (sr := .lst (cs.map V.ref)) (ss := shL tss) TT ⟨g, rfl, S9 _ _ (C8.S _ _ eg7)⟩ ⟨D, rfl, S9 _ _ C8.d⟩ (shL_all (by omega) fun n a ts e1 e2 => S9 _ _ (call n a ts e1 e2)) rfl rfl rfl (shL_rows tss) tli i60 asc labs R fun H10 x S10 nx cC => ⟨rfl, ?_⟩⟩⟩
      have S810 := S9.trans S10
      have S610 := S68.trans S810
      have eg10 := S810 _ _ (C8.S _ _ eg7)
      have eD10 := S810 _ _ C8.d
      have L10 := L.keep S610
      refine ⟨_, rfl, _, rfl, _, _, .lst (SqL.of eg10) (dp_ints is), .lst (SqL.of (S610 _ _ elb6)) (dp_ints is), shaped_li is, shaped_li is, _, rfl, if_fa (by rw [eqv_li]; simp) ?_⟩
      refine ⟨_, rfl, _, rfl, _, _, .lst (SqL.of eD10) (dp_linesD (by omega) fun n a ts e1 e2 => S810 _ _ (call n a ts e1 e2)), L10.dp, shaped_linesD tss, shaped_linesD tss, _, rfl, if_fa (by rw [eqv_lines]; simp) ?_⟩
      refine ⟨_, rfl, _, rfl, _, rfl, _, rfl, x, b, lb, l, bs, is, ps, tss, rfl, cC, S610 _ _ eb6, gb, S610 _ _ elb6, L10, fun H11 S11 => ⟨_, rfl, iteF ?_⟩⟩
      have S611 := S610.trans S11
      have S811 := S810.trans S11
      -- kept
      have em11 := S611 _ _ em6
      refine ⟨_, rfl, .inl ⟨rfl, _, SqL.of em11⟩, _, rfl, _, rfl, _, rfl, _, rfl, (by show 4 ≤ sizeLine; decide), fun T hT => ?_⟩
      have T12 : Same H11 (upd H11 T (.tup [.ref x, .ref b, .ref lb, .ref l])) := new_same hT
      have eT12 : (upd H11 T (.tup [.ref x, .ref b, .ref lb, .ref l])) T = some (.tup [.ref x, .ref b, .ref lb, .ref l]) := upd_same
      generalize upd H11 T (.tup [.ref x, .ref b, .ref lb, .ref l]) = H12 at T12 eT12
      have em12 := T12 _ _ em11
      refine ⟨ml, _, _, rfl, rfl, em12, by rw [List.length_map]; exact small1000 (by omega), ?_⟩
      have F13 : ∀ b' o, b' ≠ ml → H12 b' = some o → (upd H12 ml (.lst ((ms.map fun m => V.ref m.T) ++ [.ref T]))) b' = some o := fun b' o n e => by
        rw [upd_ne n]
        exact e
      have em13 : (upd H12 ml (.lst ((ms.map fun m => V.ref m.T) ++ [.ref T]))) ml = some (.lst ((ms ++ [Mem.mk T x b lb l bs is ps tss]).map fun m => V.ref m.T)) := by
        rw [upd_same, List.map_append]
        rfl
      generalize upd H12 ml (.lst ((ms.map fun m => V.ref m.T) ++ [.ref T])) = H13 at F13 em13
      have g_m : g ≠ ml := (ne_of_none em6 hg).symm
      have D_m : D ≠ ml := (ne_of_none (T7 _ _ em6) hD).symm
      have c_m : ∀ a' ∈ cs, a' ≠ ml := fun a' ha => by
        obtain ⟨n, hn⟩ := List.getElem?_of_mem ha
        have hl := (List.getElem?_eq_some_iff.mp hn).1
        exact (ne_of_none (T7 _ _ em6) (C8.a n a' _ hn (List.getElem?_eq_getElem (by omega))).1).symm
      have eg13 := F13 _ _ g_m (T12 _ _ (S811 _ _ (C8.S _ _ eg7)))
      have eD13 := F13 _ _ D_m (T12 _ _ (S811 _ _ C8.d))
      have ec13 : ∀ (n : Nat) (a : Addr) (ts : List Int), cs[n]? = some a → tss[n]? = some ts → H13 a = some (.lst (ts.map V.int)) := fun n a' ts e1 e2 => F13 _ _ (c_m a' (List.mem_of_getElem? e1)) (T12 _ _ (S811 _ _ (call n a' ts e1 e2)))
      have g_D : g ≠ D := ne_of_none eg7 hD
      have c_D : ∀ a' ∈ cs, a' ≠ D := fun a' ha => by
        obtain ⟨n, hn⟩ := List.getElem?_of_mem ha
        have hl := (List.getElem?_eq_some_iff.mp hn).1
        exact (C8.a n a' _ hn (List.getElem?_eq_getElem (by omega))).2.1
      have c_g : ∀ a' ∈ cs, a' ≠ g := fun a' ha => by
        obtain ⟨n, hn⟩ := List.getElem?_of_mem ha
        have hl := (List.getElem?_eq_some_iff.mp hn).1
        exact (ne_of_none eg7 (C8.a n a' _ hn (List.getElem?_eq_getElem (by omega))).1).symm
      -- spoilt
      refine ⟨fun σ' H' => (∃ v11 : Option V, σ' = [some (.ref a), some (.ref h), some (.ref ml), some (.int (0 + (i : Nat))), some (.ref b), some (.int (m : Nat)), some (.ref lb), some (.ref l), some (.ref g), some (.ref D), some (.ref x), v11, v12, none, none, none, none]) ∧ ∀ b' o, b' ≠ g → b' ≠ D → b' ∉ cs → H13 b' = some o → H' b' = some o, ?_, ?_⟩
      · refine ⟨_, rfl, _, _, rfl, rfl, _, rfl, ?_⟩
        refine ifD (fun cm => ?_) (fun cm => ⟨⟨_, rfl⟩, fun _ _ _ _ _ e => e⟩)
        refine ⟨Nat.zero_le _, fun z hz => ⟨_, rfl, _, rfl, _, _, rfl, rfl, D, _, _, (((m : Nat) : Int) - 1).toNat, rfl, rfl, new_same hz _ _ eD13, ixN_at (by omega) (by rw [List.length_map]; omega), ?_⟩⟩
        have n_zD : z ≠ D := (ne_of_none eD13 hz).symm
        have G14 : ∀ b' o, b' ≠ D → H13 b' = some o → (upd (upd H13 z (.lst [])) D (.lst ((cs.map V.ref).set (((m : Nat) : Int) - 1).toNat (.ref z)))) b' = some o := fun b' o n e => by
          rw [upd_ne n, upd_ne (ne_of_none e hz)]
          exact e
        have eD14 : (upd (upd H13 z (.lst [])) D (.lst ((cs.map V.ref).set (((m : Nat) : Int) - 1).toNat (.ref z)))) D = some (.lst ((cs.map V.ref).set (((m : Nat) : Int) - 1).toNat (.ref z))) := upd_same
        have ez14 : (upd (upd H13 z (.lst [])) D (.lst ((cs.map V.ref).set (((m : Nat) : Int) - 1).toNat (.ref z)))) z = some (.lst []) := by rw [upd_ne n_zD, upd_same]
        have n_zg : z ≠ g := (ne_of_none eg13 hz).symm
        generalize upd (upd H13 z (.lst [])) D (.lst ((cs.map V.ref).set (((m : Nat) : Int) - 1).toNat (.ref z))) = H14 at G14 eD14 ez14
        refine ⟨_, rfl, g, _, 0, 0, rfl, rfl, G14 _ _ g_D eg13, ixN_at (by decide) (by rw [List.length_map]; omega), ?_⟩
        have G15 : ∀ b' o, b' ≠ g → b' ≠ D → H13 b' = some o → (upd H14 g (.lst ((is.map V.int).set 0 (.int 5)))) b' = some o := fun b' o n1 n2 e => by
          rw [upd_ne n1]
          exact G14 _ _ n2 e
        have eD15 : (upd H14 g (.lst ((is.map V.int).set 0 (.int 5)))) D = some (.lst ((cs.map V.ref).set (((m : Nat) : Int) - 1).toNat (.ref z))) := by rw [upd_ne g_D.symm]; exact eD14
        have ez15 : (upd H14 g (.lst ((is.map V.int).set 0 (.int 5)))) z = some (.lst []) := by rw [upd_ne n_zg]; exact ez14
        generalize upd H14 g (.lst ((is.map V.int).set 0 (.int 5))) = H15 at G15 eD15 ez15
        obtain ⟨w', xs, hw, ew, hor⟩ : ∃ (w' : Addr) (xs : List V), ((cs.map V.ref).set (((m : Nat) : Int) - 1).toNat (.ref z))[1]? = some (.ref w') ∧ H15 w' = some (.lst xs) ∧ ((w' ∈ cs ∧ 0 < xs.length) ∨ xs = []) := by
          by_cases c2 : m = 2
          · refine ⟨z, [], ?_, ez15, .inr rfl⟩
            subst c2
            show ((cs.map V.ref).set 1 (.ref z))[1]? = _
            rw [List.getElem?_set_self (by rw [List.length_map]; omega)]
          · have hc : 1 < cs.length := by omega
            have ec := List.getElem?_eq_getElem hc
            have et := List.getElem?_eq_getElem (l := tss) (i := 1) (by omega)
            refine ⟨cs[1], tss[1].map V.int, ?_, ?_, .inl ⟨List.mem_of_getElem? ec, by rw [List.length_map, (R 1 _ et).1]; exact Nat.one_pos⟩⟩
            · rw [List.getElem?_set_ne (by omega), List.getElem?_map, ec]
              rfl
            · have mm := List.mem_of_getElem? ec
              exact G15 _ _ (c_g _ mm) (c_D _ mm) (ec13 1 _ _ ec et)
        refine ⟨_, rfl, _, _, _, _, rfl, rfl, SqL.of eD15, at_of (j := 1) (v := .ref w') rfl hw, ?_⟩
        refine ⟨_, rfl, Nat.zero_le _, fun pe hpe => ⟨w', pe, xs, rfl, rfl, SqL.of (new_same hpe _ _ ew), SqL.of upd_same, _, rfl, ?_⟩⟩
        rcases hor with ⟨hwc, hx⟩ | hx
        · have hne : xs.isEmpty = false := by cases xs with | nil => cases hx | cons _ _ => rfl
          rw [hne]
          refine iteT ⟨_, rfl, w', _, 0, 0, rfl, rfl, new_same hpe _ _ ew, ixN_at (by decide) (by omega), ⟨_, rfl⟩, fun b' o n1 n2 n3 e => ?_⟩
          have q := G15 b' o n1 n2 e
          rw [upd_ne (fun zz => n3 (by rw [zz]; exact hwc)), upd_ne (ne_of_none q hpe)]
          exact q
        · subst hx
          refine iteF ⟨⟨_, rfl⟩, fun b' o n1 n2 n3 e => ?_⟩
          have q := G15 b' o n1 n2 e
          rw [upd_ne (ne_of_none q hpe)]
          exact q
      rintro σ14 H14 ⟨⟨v11', rfl⟩, F14⟩
      have out : ∀ b' o, H6 b' = some o → b' ≠ g ∧ b' ≠ D ∧ b' ∉ cs := fun b' o e => ⟨ne_of_none e hg, ne_of_none (T7 _ _ e) hD, fun hm' => by
        obtain ⟨n, hn⟩ := List.getElem?_of_mem hm'
        have hl := (List.getElem?_eq_some_iff.mp hn).1
        exact ne_of_none (T7 _ _ e) (C8.a n b' _ hn (List.getElem?_eq_getElem (by omega))).1 rfl⟩
      have F6 : ∀ b' o, b' ≠ ml → H6 b' = some o → H14 b' = some o := fun b' o n e => by
        obtain ⟨n1, n2, n3⟩ := out b' o e
        exact F14 b' o n1 n2 n3 (F13 _ _ n (T12 _ _ (S611 _ _ e)))
      have FK : ∀ (b' : Addr) (o : HO), (∀ zs, o ≠ .lst zs) → H12 b' = some o → H14 b' = some o := fun b' o n e => by
        have e13 := F13 _ _ (ne_of e em12 (n _)) e
        refine F14 b' o (ne_of e13 eg13 (n _)) (ne_of e13 eD13 (n _)) (fun hm' => ?_) e13
        obtain ⟨n', hn⟩ := List.getElem?_of_mem hm'
        have hl := (List.getElem?_eq_some_iff.mp hn).1
        exact ne_of e13 (ec13 n' b' _ hn (List.getElem?_eq_getElem (by omega))) (n _) rfl
      have h14 : Hand H14 h q := by
        obtain ⟨cs', i', r', t', e1, e2, z⟩ := h6
        exact ⟨cs', i', r', t', F6 _ _ nhm e1, F6 _ _ nqm e2, z⟩
      have eb14 := F6 _ _ nbm eb6
      have elb14 := F6 _ _ nlbm elb6
      have L14 : LinesAt H14 l ps tss := ⟨F6 _ _ nlm L.1, L.2.1, fun j a' ts e1 e2 => by
        obtain ⟨w1, w2⟩ := L.2.2 j a' ts e1 e2
        exact ⟨w1, F6 _ _ (npm a' (List.mem_of_getElem? e1)) w2⟩⟩
      have cC14 : CompAt C CC H14 x bs is tss := ((cC.keep S11).keep T12).fr FK
      have eT14 : H14 T = some (.tup [.ref x, .ref b, .ref lb, .ref l]) := FK _ _ (fun _ z => by cases z) eT12
      have em14 : H14 ml = some (.lst ((ms ++ [Mem.mk T x b lb l bs is ps tss]).map fun m => V.ref m.T)) := F14 _ _ g_m.symm D_m.symm (fun hm' => c_m ml hm' rfl) em13
      have mem14 : ∀ m ∈ ms, MemAt C CC h ml H14 m := fun m' hm' => (mem m' hm').fr eh1 em fun b' o n1 n2 e => F6 b' o n2 (B16 b' o n1 e)
      have new14 : MemAt C CC h ml H14 ⟨T, x, b, lb, l, bs, is, ps, tss⟩ := ⟨eT14, cC14, eb14, gb, elb14, L14, nbh, nbm, nlh, nlbm, nlh2, nlm, fun a' ha => ⟨(fr a' ha).2, npm a' ha⟩⟩
      -- the same one
      refine ⟨_, rfl, b, _, rfl, .inl ⟨SqL.of eb14, fun tb htb => mk_ties (s := .tup (bs.map V.int)) ⟨tb, rfl, upd_same⟩ gb rfl rfl fun H16 t2 S16 nt2 TT2 => ⟨rfl, ?_⟩⟩⟩
      have S1416 : Same H14 H16 := (new_same htb).trans S16
      refine ⟨_, rfl, lb, _, rfl, .inl ⟨SqL.of (S1416 _ _ elb14), fun tg htg => ?_⟩⟩
      have T17 : Same H16 (upd H16 tg (.tup (is.map V.int))) := new_same htg
      have etg : (upd H16 tg (.tup (is.map V.int))) tg = some (.tup (is.map V.int)) := upd_same
      generalize upd H16 tg (.tup (is.map V.int)) = H17 at T17 etg
      have S1417 := S1416.trans T17
      have L17 := L14.keep S1417
      refine ⟨_, rfl, l, rfl, ⟨_, SqL.of L17.1⟩, fun D2 hD2 => ?_⟩
      refine lc_list (K := K) (a := l) (xs := ps.map V.ref) (fun j H8 => ∃ cs : List Addr, cs.length = j ∧ Cop tupO H17 H8 D2 cs tss) ⟨[], rfl, .nil hD2⟩ (fun j H8 _ ⟨_, _, C8⟩ => SqL.of (C8.S _ _ L17.1)) ?_ ?_
      · rintro j y H18 hy ⟨cs2, cl2, C18⟩
        have hjp : j < ps.length := by
          have := (List.getElem?_eq_some_iff.mp hy).1
          rwa [List.length_map] at this
        have ea := List.getElem?_eq_getElem hjp
        have ets := List.getElem?_eq_getElem (l := tss) (i := j) (by omega)
        obtain ⟨_, e3⟩ := L17.2.2 j _ _ ea ets
        obtain rfl : V.ref ps[j] = y := by
          rw [List.getElem?_map, ea] at hy
          exact Option.some.inj hy
        refine ⟨rfl, yesT ?_⟩
        refine ⟨_, rfl, ps[j], _, rfl, .inl ⟨SqL.of (C18.S _ _ e3), fun z hz => ?_⟩⟩
        refine ⟨_, new_same hz _ _ C18.d, by rw [List.length_map]; exact small1000 (by omega), cs2 ++ [z], by rw [List.length_append, cl2]; rfl, C18.snoc hz (by rw [cl2]; exact ets)⟩
      rintro H18 ⟨cs2, cl2, C18⟩
      rw [List.length_map] at cl2
      refine mk_comp (sg := .tup (is.map V.int)) (sr := .lst (cs2.map V.ref)) (ss := shT tss) ((TT2.keep T17).keep C18.S) ⟨tg, rfl, C18.S _ _ etg⟩ ⟨D2, rfl, C18.d⟩ (shT_all (by omega) fun n a' ts e1 e2 => (C18.a n a' ts e1 e2).2.2) rfl rfl rfl (shT_rows tss) tli i60 asc labs R fun H19 x2 S19 nx2 cC2 => ⟨rfl, ?_⟩
      have S1419 := (S1417.trans C18.S).trans S19
      refine ⟨_, rfl, _, rfl, _, rfl, _, rfl, x2, b, lb, l, bs, is, ps, tss, rfl, cC2, S1419 _ _ eb14, gb, S1419 _ _ elb14, L14.keep S1419, fun H20 S20 => ⟨_, rfl, iteF ?_⟩⟩
      have S1420 := S1419.trans S20
      have cA := cC14.keep S1420
      have cB := cC2.keep S20
      obtain ⟨dA, a1, a2, a3, a4, a5, a6, a7, eA, _⟩ := id cA
      obtain ⟨dB, b1, b2', b3', b4', b5', b6', b7, eB, _⟩ := id cB
      refine ⟨_, rfl, _, rfl, x, x2, dA, _, rfl, rfl, eA, .inl ⟨dB, _, eB⟩, x, x2, bs, bs, is, is, tss, tss, rfl, cA, cB, ⟨_, rfl⟩, _, _, rfl, rfl, _, rfl, if_fa (by simp) ?_⟩
      refine ⟨_, _, _, _, _, _, _, _, _, _, ms ++ [⟨T, x, b, lb, l, bs, is, ps, tss⟩], rfl, h14.keep S1420, S1420 _ _ em14, by rw [List.length_append, lm]; rfl, fun m' hm' => ?_⟩
      obtain ⟨cs3, i3, r3, t3, eh3, _⟩ := id h14
      rcases List.mem_append.mp hm' with hm' | hm'
      · exact (mem14 m' hm').fr eh3 em14 fun b' o _ _ e => S1420 _ _ e
      · obtain rfl := List.mem_singleton.mp hm'
        exact new14.fr eh3 em14 fun b' o _ _ e => S1420 _ _ e
    · rintro σ H1 ⟨v3, v4, v5, v6, v7, v8, v9, v10, v11, v12, ms, rfl, h1, em, lm, mem⟩
      refine ⟨_, rfl, ml, rfl, ⟨_, SqL.of em⟩, for_list (K := K) (a := ml) (xs := ms.map fun m => V.ref m.T) (fun i σ H' => ∃ (v4 v6 v7 v10 : Option V), σ = [some (.ref a), some (.ref h), some (.ref ml), v3, v4, v5, v6, v7, v8, v9, v10, v11, v12, none, none, none, none] ∧ Hand H' h q ∧ H' ml = some (.lst (ms.map fun m => V.ref m.T)) ∧ ∀ m ∈ ms, MemAt C CC h ml H' m)
        ⟨_, _, _, _, rfl, h1, em, mem⟩ (fun i σ H' _ ⟨_, _, _, _, _, _, e, _⟩ => SqL.of e) ?_ ?_⟩
      · rintro i y σ H2 hy ⟨v4, v6, v7, v10, rfl, h2, em2, mem2⟩
        obtain ⟨m, hm, rfl⟩ := List.mem_map.mp (List.mem_of_getElem? hy)
        have M := mem2 m hm
        refine ⟨m.T, _, rfl, SqT.of M.t, rfl, _, _, rfl, _, _, rfl, _, _, rfl, _, _, rfl, rfl, ?_⟩
        refine ⟨_, rfl, _, rfl, _, rfl, _, rfl, m.x, m.b, m.lb, m.l, m.ns, m.is, m.ps, m.tss, rfl, M.c, M.b, M.g, M.lb, M.l, fun H3 S3 => ⟨_, rfl, iteF ?_⟩⟩
        refine ⟨_, rfl, _, rfl, _, rfl, h, q, m.x, m.lb, m.ns, m.is, m.tss, rfl, h2.keep S3, M.c.keep S3, M.lb1, S3 _ _ M.lb, fun H4 B4 h4 => ⟨_, rfl, iteF ?_⟩⟩
        obtain ⟨cs, i1, r1, t1, eh, _⟩ := id h2
        exact ⟨_, _, _, _, rfl, h4, B4 _ _ nhm.symm (S3 _ _ em2), fun m' hm' => (mem2 m' hm').fr eh em2 fun b o n1 n2 e => B4 _ _ n1 (S3 _ _ e)⟩
      · rintro σ H2 ⟨v4, v6, v7, v10, rfl, h2, em2, mem2⟩
        obtain ⟨m0, m1, rfl⟩ : ∃ m0 m1, ms = [m0, m1] := match ms, lm with | [a, b], _ => ⟨a, b, rfl⟩
        have M0 := mem2 m0 (by simp)
        have M1 := mem2 m1 (by simp)
        refine ⟨_, rfl, _, _, _, _, rfl, rfl, SqL.of em2, at_of (j := 0) (v := .ref m0.T) rfl rfl, _, rfl, _, _, _, _, rfl, rfl, SqL.of em2, at_of (j := 1) (v := .ref m1.T) rfl rfl, _, _, rfl, ?_⟩
        -- says
        obtain ⟨d0, s1, s2, s3, s4, s5, s6, s7, x0, _⟩ := id M0.c
        obtain ⟨d1, u1, u2, u3, u4, u5, u6, u7, x1, _⟩ := id M1.c
        refine ⟨fun σ' H' => σ' = [some (.ref a), some (.ref h), some (.ref ml), v3, v4, v5, v6, v7, v8, v9, v10, v11, v12, some (.ref m0.T), some (.ref m1.T), none, none] ∧ H' = H2, ?_, ?_⟩
        · refine ⟨_, rfl, _, _, _, _, rfl, rfl, SqT.of M0.t, at_of (j := 0) (v := .ref m0.x) rfl rfl, _, rfl, _, _, _, _, rfl, rfl, SqT.of M1.t, at_of (j := 0) (v := .ref m1.x) rfl rfl, ?_⟩
          refine ⟨m0.x, m1.x, d0, _, rfl, rfl, x0, .inl ⟨d1, _, x1⟩, m0.x, m1.x, m0.ns, m1.ns, m0.is, m1.is, m0.tss, m1.tss, rfl, M0.c, M1.c, ⟨_, rfl⟩, ?_⟩
          refine ⟨_, rfl, _, _, _, _, rfl, rfl, SqT.of M0.t, at_of (j := 1) (v := .ref m0.b) rfl rfl, _, rfl, _, _, _, _, rfl, rfl, SqT.of M1.t, at_of (j := 1) (v := .ref m1.b) rfl rfl, _, _, .lst (SqL.of M0.b) (dp_ints _), .lst (SqL.of M1.b) (dp_ints _), shaped_li _, shaped_li _, _, rfl, ?_⟩
          rw [eqv_li]
          by_cases e1 : m0.ns = m1.ns
          case neg =>
            refine if_fa (decide_eq_false e1) ⟨_, _, rfl, _, rfl, if_fa (by simp [e1]) ⟨rfl, rfl⟩⟩
          refine if_tr (decide_eq_true e1) ?_
          refine ⟨_, rfl, _, _, _, _, rfl, rfl, SqT.of M0.t, at_of (j := 2) (v := .ref m0.lb) rfl rfl, _, rfl, _, _, _, _, rfl, rfl, SqT.of M1.t, at_of (j := 2) (v := .ref m1.lb) rfl rfl, _, _, .lst (SqL.of M0.lb) (dp_ints _), .lst (SqL.of M1.lb) (dp_ints _), shaped_li _, shaped_li _, _, rfl, ?_⟩
          rw [eqv_li]
          by_cases e2 : m0.is = m1.is
          case neg =>
            refine if_fa (decide_eq_false e2) ⟨_, _, rfl, _, rfl, if_fa (by simp [e2]) ⟨rfl, rfl⟩⟩
          refine if_tr (decide_eq_true e2) ?_
          refine ⟨_, rfl, _, _, _, _, rfl, rfl, SqT.of M0.t, at_of (j := 3) (v := .ref m0.l) rfl rfl, _, rfl, _, _, _, _, rfl, rfl, SqT.of M1.t, at_of (j := 3) (v := .ref m1.l) rfl rfl, _, _, M0.l.dp, M1.l.dp, shaped_linesD _, shaped_linesD _, ?_⟩
          rw [eqv_lines]
          exact ⟨_, _, rfl, _, rfl, if_fa (by simp [e1, e2]) ⟨rfl, rfl⟩⟩
        rintro σ' H' ⟨rfl, rfl⟩
        -- nobody
        refine ⟨(by show 2 ≤ sizeLine; decide), fun z hz => mk_ties (s := .lst [.int 0, .int 1]) (ns := [0, 1]) ⟨z, rfl, upd_same⟩ good01 rfl rfl fun HT t ST nt TT => ⟨rfl, mk_nob TT kg0 kr0 fun HN y SN ny N => ⟨rfl, ?_⟩⟩⟩
        obtain ⟨dy, t', g', r', b', p', ey, eT, eg, er⟩ := id N
        refine ⟨_, rfl, y, dy, _, rfl, ey, ⟨y, [0, 1], rfl, N, 0, rfl, by decide, rfl, _, rfl, if_fa (by simp) ?_⟩⟩
        have ee : PyData.eqv (.tuple []) (.tuple []) = true := eqv_ti [] []
        refine ⟨_, rfl, y, CC, dy, _, _, rfl, ey, c.cl, c.nG, cf_guests _ _ _ _ _, Nat.zero_le _, fun z2 hz2 => ⟨_, _, .tup (SqT.sm eg (new_same hz2)) .nil, .tup (SqT.of upd_same) .nil, shaped_ti [], shaped_ti [], _, rfl, if_fa (by rw [ee]; rfl) ?_⟩⟩
        have S2 : Same HN (upd HN z2 (.tup [])) := new_same hz2
        generalize upd HN z2 (.tup []) = HA at S2
        refine ⟨_, rfl, y, CC, dy, _, _, rfl, S2 _ _ ey, c.cl, c.nR, cf_rows _ _ _ _ _, Nat.zero_le _, fun z3 hz3 => ⟨_, _, .tup (SqT.sm er (S2.trans (new_same hz3))) .nil, .tup (SqT.of upd_same) .nil, shaped_ti [], shaped_ti [], _, rfl, if_fa (by rw [ee]; rfl) ?_⟩⟩
        have S3 : Same HN (upd HA z3 (.tup [])) := S2.trans (new_same hz3)
        generalize upd HA z3 (.tup []) = HB at S3
        refine ⟨_, rfl, (by show 2 ≤ sizeLine; decide), fun z4 hz4 => mk_ties (s := .lst [.int 1, .int 0]) (ns := [1, 0]) ⟨z4, rfl, upd_same⟩ good10 rfl rfl fun HT2 t2 ST2 _ TT2 => ⟨rfl, mk_nob TT2 kg0 kr0 fun HN2 y2 SN2 ny2 N2 => ⟨rfl, ?_⟩⟩⟩
        have S4 : Same HN HN2 := ((S3.trans (new_same hz4)).trans ST2).trans SN2
        obtain ⟨dy2, _, _, _, _, _, ey2, _⟩ := id N2
        refine ⟨y, y2, dy, _, rfl, rfl, S4 _ _ ey, .inl ⟨dy2, _, ey2⟩, y, y2, [0, 1], [1, 0], rfl, N.keep S4, N2, ⟨_, rfl⟩, _, rfl, if_fa (by decide) ?_⟩
        refine ⟨_, rfl, (by show 2 ≤ sizeLine; decide), fun z5 hz5 => mk_ties (s := .lst [.int 0, .int 1]) (ns := [0, 1]) ⟨z5, rfl, upd_same⟩ good01 rfl rfl fun HT3 t3 ST3 _ TT3 => ⟨rfl, Nat.zero_le _, fun zl hzl => ⟨Nat.zero_le _, fun zt hzt => ?_⟩⟩⟩
        have S5 := (new_same hzl (o := .lst [])).trans (new_same hzt (o := .tup []))
        refine mk_comp (sg := .lst []) (sr := .tup []) (ss := []) (is := []) (tss := []) (TT3.keep S5) ⟨zl, rfl, new_same hzt _ _ upd_same⟩ ⟨zt, rfl, upd_same⟩ .nil rfl rfl rfl ⟨rfl, fun j s ts e => by simp at e⟩ rfl (by decide) (fun i a b e => by simp at e) (fun n hn => by simp at hn) (fun j ts e => by simp at e) fun HC y3 SC ny3 c3 => ⟨rfl, ?_⟩
        have S6 : Same HN HC := (((S4.trans (new_same hz5)).trans ST3).trans S5).trans SC
        obtain ⟨dy3, _, _, _, _, _, _, _, ey3, _⟩ := id c3
        refine ⟨y, y3, dy, _, rfl, rfl, S6 _ _ ey, .inl ⟨dy3, _, ey3⟩, y, y3, [0, 1], [0, 1], rfl, N.keep S6, c3.nob, ⟨_, rfl⟩, _, rfl, if_tr (by decide) ⟨rfl, ?_⟩⟩
        show Q (.bl (decide (V.int 60 = V.int 60))) HC
        rw [decide_eq_true rfl]
        exact k _
end
end J

set_option Elab.async false
set_option linter.all false
set_option maxRecDepth 100000
set_option maxHeartbeats 8000000
namespace J
open PySem L2
theorem kit_me {K : PySem.W.Frag} {S : Addr} : PySem.W.kitOne K (.ref S) (.ref S) = some true := by
  unfold PySem.W.kitOne
  rw [if_pos (by simp)]
theorem kit_no {K : PySem.W.Frag} {S : Addr} {T : String} (h2 : PySem.W.isClsIn K S = true) (h3 : PySem.W.typeIn K (.ref S) = some (.type "type")) (h4 : PySem.W.subIn K (.type T) (.ref S) = some false) : PySem.W.kitOne K (.type T) (.ref S) = some false := by
  have e2 : ((PySem.W.clsIn K S).isSome && PySem.W.typeIn K (.ref S) == some (.type "type")) = true := by
    have q : (PySem.W.clsIn K S).isSome = true := h2
    rw [q, h3]
    rfl
  unfold PySem.W.kitOne
  rw [if_neg (by simp)]
  show (if ((PySem.W.clsIn K S).isSome && PySem.W.typeIn K (.ref S) == some (.type "type")) = true then PySem.W.subIn K (.type T) (.ref S) else none) = some false
  rw [if_pos e2]
  exact h4
theorem fund_mk {K : PySem.W.Frag} {x qual : Str} {st : Stmt} {f Td e1 e2 : Addr} {oc kV doc pm cd ct cT : Value} {od an dT : Option Addr} {sl slT : Array (Option Value)} {nT : Nat} (l : K.lookup f = some ⟨oc, od, .func (PySem.W.fnOf x qual (defArgs st) (defBody st) (defScope st) (.ref Td) kV doc pm an cd ct), sl⟩)
    (lT : K.lookup Td = some ⟨cT, dT, .seq #[.ref e1, .ref e2] nT, slT⟩) (c : PySem.W.codeIn K cd qual = true) (k : PySem.W.keepIn K (.ref f) = true) : FunD K x qual (defArgs st) (defBody st) (defScope st) [V.ref e1, V.ref e2] [] f (PySem.W.fnOf x qual (defArgs st) (defBody st) (defScope st) (.ref Td) kV doc pm an cd ct) :=
  ⟨⟨oc, od, .ref Td, kV, doc, pm, an, cd, ct, sl, rfl, l, c, .inr ⟨by simp, Td, _, [.ref e1, .ref e2], nT, rfl, lT, rfl, .cons rfl (.cons rfl .nil)⟩, .inl rfl⟩, k⟩
theorem fund_binds {K : PySem.W.Frag} {x qual : Str} {params : Arguments} {body : List Stmt} {scope : Scope} {a b : V} {f : Addr} {fd : FuncData} {ps : List Str} (F : FunD K x qual params body scope [a, b] [] f fd)
    (h : ∀ (T : Addr) (kV doc pm : Value) (an : Option Addr) (cdv ct : Value) (us its : List Value), us.length = ps.length → its.length = 2 →
      ∃ k, bindArgs (PySem.W.fnOf x qual params body scope (.ref T) kV doc pm an cdv ct) ⟨us, []⟩ = seqItems? (.ref T) >>= k ∧ k (some its.toArray) = pure (ps.zip (us ++ its.drop 2))) : Binds K fd ps [] := by
  obtain ⟨ds, v, bd⟩ := F.binds1 ps.length 2 (by simp) (by simp) h
  have v' : Vals [] ds := v
  cases v'
  exact bd
/-- all defaults fill up -/
theorem fund_binds0 {K : PySem.W.Frag} {x qual : Str} {params : Arguments} {body : List Stmt} {scope : Scope} {a b : V} {f : Addr} {fd : FuncData} {ps : List Str} {n : Nat} (F : FunD K x qual params body scope [a, b] [] f fd) (hn : n + 2 = ps.length)
    (h : ∀ (T : Addr) (kV doc pm : Value) (an : Option Addr) (cdv ct : Value) (us its : List Value), us.length = n → its.length = 2 →
      ∃ k, bindArgs (PySem.W.fnOf x qual params body scope (.ref T) kV doc pm an cdv ct) ⟨us, []⟩ = seqItems? (.ref T) >>= k ∧ k (some its.toArray) = pure (ps.zip (us ++ its.drop 0))) : ∃ ds, Vals [a, b] ds ∧ Binds K fd ps ds :=
  F.binds1 n 0 (by simp) hn h
/-- an error of the class at S is what its own name catches -/
theorem exm_own {K : PySem.W.Frag} {S : Addr} (h1 : PySem.W.subIn K (.ref S) (.type "BaseException") = some true) (h2 : PySem.W.isClsIn K S = true) (h3 : PySem.W.typeIn K (.ref S) = some (.type "type")) (h4 : PySem.W.subIn K (.ref S) (.ref S) = some true) :
    PySem.W.exmOne K (.ref S) (.ref S) = some true := by
  have e1 : (PySem.W.subIn K (.ref S) (.type "BaseException") == some true) = true := by rw [h1]; rfl
  have e2 : ((PySem.W.clsIn K S).isSome && PySem.W.typeIn K (.ref S) == some (.type "type")) = true := by
    have q : (PySem.W.clsIn K S).isSome = true := h2
    rw [q, h3]
    rfl
  unfold PySem.W.exmOne
  rw [if_pos e1]
  show (if ((PySem.W.clsIn K S).isSome && PySem.W.typeIn K (.ref S) == some (.type "type")) = true then PySem.W.subIn K (.ref S) (.ref S) else none) = some true
  rw [if_pos e2]
  exact h4
/-- an error of the class at A, asked whether the name of the class at S catches it -/
theorem exm_of {K : PySem.W.Frag} {A S : Addr} {b : Bool} (h1 : PySem.W.subIn K (.ref S) (.type "BaseException") = some true) (h2 : PySem.W.isClsIn K S = true) (h3 : PySem.W.typeIn K (.ref S) = some (.type "type")) (h4 : PySem.W.subIn K (.ref A) (.ref S) = some b) :
    PySem.W.exmOne K (.ref A) (.ref S) = some b := by
  have e1 : (PySem.W.subIn K (.ref S) (.type "BaseException") == some true) = true := by rw [h1]; rfl
  have e2 : ((PySem.W.clsIn K S).isSome && PySem.W.typeIn K (.ref S) == some (.type "type")) = true := by
    have q : (PySem.W.clsIn K S).isSome = true := h2
    rw [q, h3]
    rfl
  unfold PySem.W.exmOne
  rw [if_pos e1]
  show (if ((PySem.W.clsIn K S).isSome && PySem.W.typeIn K (.ref S) == some (.type "type")) = true then PySem.W.subIn K (.ref A) (.ref S) else none) = some b
  rw [if_pos e2]
  exact h4
theorem all_mk {l : PySem.W.OpenLaw} {w : World} {K : PySem.W.Frag} {h : Heap} {mg : Str → Option Value} {fa : Addr} (X : K.In h) (G : h.Ns mainGlobals mg) (hfa : mg "law" = some (.ref fa))
    {GE CB f_xCB CE f_xCE CN f_xCN CL f_xCL CT CC f_W f_LB f_Q f_CK f_tI f_tH f_tE f_CR f_CC2 f_TO f_cI TdcI e1cI e2cI f_cL f_cC f_cT f_cE f_cP f_cO f_cR f_X f_H f_D f_K f_B f_A f_T f_P f_Y f_O f_N f_R f_S f_V : Addr} {oc_xCB kv_xCB dc_xCB pm_xCB cd_xCB ct_xCB oc_xCE kv_xCE dc_xCE pm_xCE cd_xCE ct_xCE oc_xCN kv_xCN dc_xCN pm_xCN cd_xCN ct_xCN oc_xCL kv_xCL dc_xCL pm_xCL cd_xCL ct_xCL oc_W kv_W dc_W pm_W cd_W ct_W oc_LB kv_LB dc_LB pm_LB cd_LB ct_LB oc_Q kv_Q dc_Q pm_Q cd_Q ct_Q oc_CK kv_CK dc_CK pm_CK cd_CK ct_CK oc_tI kv_tI dc_tI pm_tI cd_tI ct_tI oc_tH kv_tH dc_tH pm_tH cd_tH ct_tH oc_tE kv_tE dc_tE pm_tE cd_tE ct_tE oc_CR kv_CR dc_CR pm_CR cd_CR ct_CR oc_CC2 kv_CC2 dc_CC2 pm_CC2 cd_CC2 ct_CC2 oc_TO kv_TO dc_TO pm_TO cd_TO ct_TO oc_cI kv_cI dc_cI pm_cI cd_cI ct_cI cTcI oc_cL kv_cL dc_cL pm_cL cd_cL ct_cL oc_cC kv_cC dc_cC pm_cC cd_cC ct_cC oc_cT kv_cT dc_cT pm_cT cd_cT ct_cT oc_cE kv_cE dc_cE pm_cE cd_cE ct_cE oc_cP kv_cP dc_cP pm_cP cd_cP ct_cP oc_cO kv_cO dc_cO pm_cO cd_cO ct_cO oc_cR kv_cR dc_cR pm_cR cd_cR ct_cR oc_X kv_X dc_X pm_X cd_X ct_X oc_H kv_H dc_H pm_H cd_H ct_H oc_D kv_D dc_D pm_D cd_D ct_D oc_K kv_K dc_K pm_K cd_K ct_K oc_B kv_B dc_B pm_B cd_B ct_B oc_A kv_A dc_A pm_A cd_A ct_A oc_T kv_T dc_T pm_T cd_T ct_T oc_P kv_P dc_P pm_P cd_P ct_P oc_Y kv_Y dc_Y pm_Y cd_Y ct_Y oc_O kv_O dc_O pm_O cd_O ct_O oc_N kv_N dc_N pm_N cd_N ct_N oc_R kv_R dc_R pm_R cd_R ct_R oc_S kv_S dc_S pm_S cd_S ct_S oc_V kv_V dc_V pm_V cd_V ct_V : Value} {od_xCB an_xCB od_xCE an_xCE od_xCN an_xCN od_xCL an_xCL od_W an_W od_LB an_LB od_Q an_Q od_CK an_CK od_tI an_tI od_tH an_tH od_tE an_tE od_CR an_CR od_CC2 an_CC2 od_TO an_TO od_cI an_cI dTcI od_cL an_cL od_cC an_cC od_cT an_cT od_cE an_cE od_cP an_cP od_cO an_cO od_cR an_cR od_X an_X od_H an_H od_D an_D od_K an_K od_B an_B od_A an_A od_T an_T od_P an_P dg0 dg1 od_Y an_Y od_O an_O od_N an_N od_R an_R od_S an_S od_V an_V : Option Addr} {sl_xCB sl_xCE sl_xCN sl_xCL sl_W sl_LB sl_Q sl_CK sl_tI sl_tH sl_tE sl_CR sl_CC2 sl_TO sl_cI sTcI sl_cL sl_cC sl_cT sl_cE sl_cP sl_cO sl_cR sl_X sl_H sl_D sl_K sl_B sl_A sl_T sl_P sg0 sg1 sl_Y sl_O sl_N sl_R sl_S sl_V : Array (Option Value)} {tM tL tG : Tok} {nTcI ng0 ng1 : Nat}
    {nmCB qCB : Str} {NCB : Addr} {bsCB : List Value} {snCB : List Str} {subCB : List Value} {abCB : Bool} {colCB : Option Bool} {ddCB : Option Addr} {m0CB m1CB m2CB m3CB m5CB : Option Value}
    {nmCE qCE : Str} {NCE : Addr} {bsCE : List Value} {snCE : List Str} {subCE : List Value} {abCE : Bool} {colCE : Option Bool} {ddCE : Option Addr} {m0CE m1CE m2CE m3CE m5CE : Option Value}
    {nmCN qCN : Str} {NCN : Addr} {bsCN : List Value} {snCN : List Str} {subCN : List Value} {abCN : Bool} {colCN : Option Bool} {ddCN : Option Addr} {m0CN m1CN m2CN m3CN m5CN : Option Value}
    {nmCL qCL : Str} {NCL : Addr} {bsCL : List Value} {snCL : List Str} {subCL : List Value} {abCL : Bool} {colCL : Option Bool} {ddCL : Option Addr} {m0CL m1CL m2CL m3CL m5CL : Option Value}
    (z_len : PySem.W.nsIn K mainGlobals "len" = some none)
    (z_isinstance : PySem.W.nsIn K mainGlobals "isinstance" = some none)
    (z_int : PySem.W.nsIn K mainGlobals "int" = some none)
    (z_bool : PySem.W.nsIn K mainGlobals "bool" = some none)
    (z_list : PySem.W.nsIn K mainGlobals "list" = some none)
    (z_tuple : PySem.W.nsIn K mainGlobals "tuple" = some none)
    (z_range : PySem.W.nsIn K mainGlobals "range" = some none)
    (z_abs : PySem.W.nsIn K mainGlobals "abs" = some none)
    (z_enumerate : PySem.W.nsIn K mainGlobals "enumerate" = some none)
    (gM : PySem.W.nsIn K mainGlobals "MOST_TIES" = some (some (.int 4 tM)))
    (gL : PySem.W.nsIn K mainGlobals "MOST_LABEL" = some (some (.int 1000000000 tL)))
    (gG : PySem.W.nsIn K mainGlobals "MOST_GUESTS" = some (some (.int 60 tG)))
    (aCB : PySem.W.nsIn K mainGlobals "BadTies" = some (some (.ref CB)))
    (axCB : PySem.W.findIn K (.ref CB) "__init__" = some (some (.ref f_xCB)))
    (ixCB : PySem.W.typeIn K (.ref f_xCB) = some (.type "function"))
    (lxCB : K.lookup f_xCB = some ⟨oc_xCB, od_xCB, .func (PySem.W.fnOf "__init__" "BadTies.__init__" (defArgs s_BadTies_init) (defBody s_BadTies_init) (defScope s_BadTies_init) .none kv_xCB dc_xCB pm_xCB an_xCB cd_xCB ct_xCB), sl_xCB⟩)
    (cxCB : PySem.W.codeIn K cd_xCB "BadTies.__init__" = true)
    (kxCB : PySem.W.keepIn K (.ref f_xCB) = true)
    (xCB : K.lookup CB = some (excClassObj nmCB qCB CB NCB bsCB [.ref GE, .type "ValueError", .type "Exception", .type "BaseException", .type "object"] true snCB subCB abCB colCB ddCB m0CB m1CB m2CB m3CB m5CB "ValueError.__new__"))
    (saCB : PySem.W.findIn K (.ref CB) "__setattr__" = some (some (.builtin "object.__setattr__")))
    (gaCB : PySem.W.findIn K (.ref CB) "__getattribute__" = some (some (.builtin "BaseException.__getattribute__")))
    (ggCB : PySem.W.findIn K (.ref CB) "__getattr__" = some none)
    (no0CB : PySem.W.findIn K (.ref CB) "what" = some none)
    (kcCB : PySem.W.keepIn K (.ref CB) = true)
    (exCB : PySem.W.subIn K (.ref CB) (.type "BaseException") = some true)
    (tyCB : PySem.W.typeIn K (.ref CB) = some (.type "type"))
    (hdCB : PySem.W.hasDictIn K CB = true)
    (icCB : PySem.W.isClsIn K CB = true)
    (scCB : PySem.W.subIn K (.ref CB) (.ref CB) = some true)
    (aCE : PySem.W.nsIn K mainGlobals "BadCompany" = some (some (.ref CE)))
    (axCE : PySem.W.findIn K (.ref CE) "__init__" = some (some (.ref f_xCE)))
    (ixCE : PySem.W.typeIn K (.ref f_xCE) = some (.type "function"))
    (lxCE : K.lookup f_xCE = some ⟨oc_xCE, od_xCE, .func (PySem.W.fnOf "__init__" "BadCompany.__init__" (defArgs s_BadCompany_init) (defBody s_BadCompany_init) (defScope s_BadCompany_init) .none kv_xCE dc_xCE pm_xCE an_xCE cd_xCE ct_xCE), sl_xCE⟩)
    (cxCE : PySem.W.codeIn K cd_xCE "BadCompany.__init__" = true)
    (kxCE : PySem.W.keepIn K (.ref f_xCE) = true)
    (xCE : K.lookup CE = some (excClassObj nmCE qCE CE NCE bsCE [.ref GE, .type "ValueError", .type "Exception", .type "BaseException", .type "object"] true snCE subCE abCE colCE ddCE m0CE m1CE m2CE m3CE m5CE "ValueError.__new__"))
    (saCE : PySem.W.findIn K (.ref CE) "__setattr__" = some (some (.builtin "object.__setattr__")))
    (gaCE : PySem.W.findIn K (.ref CE) "__getattribute__" = some (some (.builtin "BaseException.__getattribute__")))
    (ggCE : PySem.W.findIn K (.ref CE) "__getattr__" = some none)
    (no0CE : PySem.W.findIn K (.ref CE) "index" = some none)
    (no1CE : PySem.W.findIn K (.ref CE) "what" = some none)
    (kcCE : PySem.W.keepIn K (.ref CE) = true)
    (exCE : PySem.W.subIn K (.ref CE) (.type "BaseException") = some true)
    (tyCE : PySem.W.typeIn K (.ref CE) = some (.type "type"))
    (hdCE : PySem.W.hasDictIn K CE = true)
    (icCE : PySem.W.isClsIn K CE = true)
    (scCE : PySem.W.subIn K (.ref CE) (.ref CE) = some true)
    (aCN : PySem.W.nsIn K mainGlobals "NoGuest" = some (some (.ref CN)))
    (axCN : PySem.W.findIn K (.ref CN) "__init__" = some (some (.ref f_xCN)))
    (ixCN : PySem.W.typeIn K (.ref f_xCN) = some (.type "function"))
    (lxCN : K.lookup f_xCN = some ⟨oc_xCN, od_xCN, .func (PySem.W.fnOf "__init__" "NoGuest.__init__" (defArgs s_NoGuest_init) (defBody s_NoGuest_init) (defScope s_NoGuest_init) .none kv_xCN dc_xCN pm_xCN an_xCN cd_xCN ct_xCN), sl_xCN⟩)
    (cxCN : PySem.W.codeIn K cd_xCN "NoGuest.__init__" = true)
    (kxCN : PySem.W.keepIn K (.ref f_xCN) = true)
    (xCN : K.lookup CN = some (excClassObj nmCN qCN CN NCN bsCN [.ref GE, .type "ValueError", .type "Exception", .type "BaseException", .type "object"] true snCN subCN abCN colCN ddCN m0CN m1CN m2CN m3CN m5CN "ValueError.__new__"))
    (saCN : PySem.W.findIn K (.ref CN) "__setattr__" = some (some (.builtin "object.__setattr__")))
    (gaCN : PySem.W.findIn K (.ref CN) "__getattribute__" = some (some (.builtin "BaseException.__getattribute__")))
    (ggCN : PySem.W.findIn K (.ref CN) "__getattr__" = some none)
    (no0CN : PySem.W.findIn K (.ref CN) "label" = some none)
    (kcCN : PySem.W.keepIn K (.ref CN) = true)
    (exCN : PySem.W.subIn K (.ref CN) (.type "BaseException") = some true)
    (tyCN : PySem.W.typeIn K (.ref CN) = some (.type "type"))
    (hdCN : PySem.W.hasDictIn K CN = true)
    (icCN : PySem.W.isClsIn K CN = true)
    (scCN : PySem.W.subIn K (.ref CN) (.ref CN) = some true)
    (aCL : PySem.W.nsIn K mainGlobals "Alike" = some (some (.ref CL)))
    (axCL : PySem.W.findIn K (.ref CL) "__init__" = some (some (.ref f_xCL)))
    (ixCL : PySem.W.typeIn K (.ref f_xCL) = some (.type "function"))
    (lxCL : K.lookup f_xCL = some ⟨oc_xCL, od_xCL, .func (PySem.W.fnOf "__init__" "Alike.__init__" (defArgs s_Alike_init) (defBody s_Alike_init) (defScope s_Alike_init) .none kv_xCL dc_xCL pm_xCL an_xCL cd_xCL ct_xCL), sl_xCL⟩)
    (cxCL : PySem.W.codeIn K cd_xCL "Alike.__init__" = true)
    (kxCL : PySem.W.keepIn K (.ref f_xCL) = true)
    (xCL : K.lookup CL = some (excClassObj nmCL qCL CL NCL bsCL [.ref GE, .type "ValueError", .type "Exception", .type "BaseException", .type "object"] true snCL subCL abCL colCL ddCL m0CL m1CL m2CL m3CL m5CL "ValueError.__new__"))
    (saCL : PySem.W.findIn K (.ref CL) "__setattr__" = some (some (.builtin "object.__setattr__")))
    (gaCL : PySem.W.findIn K (.ref CL) "__getattribute__" = some (some (.builtin "BaseException.__getattribute__")))
    (ggCL : PySem.W.findIn K (.ref CL) "__getattr__" = some none)
    (no0CL : PySem.W.findIn K (.ref CL) "label" = some none)
    (kcCL : PySem.W.keepIn K (.ref CL) = true)
    (exCL : PySem.W.subIn K (.ref CL) (.type "BaseException") = some true)
    (tyCL : PySem.W.typeIn K (.ref CL) = some (.type "type"))
    (hdCL : PySem.W.hasDictIn K CL = true)
    (icCL : PySem.W.isClsIn K CL = true)
    (scCL : PySem.W.subIn K (.ref CL) (.ref CL) = some true)
    (aCT : PySem.W.nsIn K mainGlobals "Ties" = some (some (.ref CT)))
    (pgCT : PySem.W.plainGet K CT Str.empty = true)
    (hdCT : PySem.W.hasDictIn K CT = true)
    (poCT : PySem.W.plainOver K CT = true)
    (saCT : PySem.W.findIn K (.ref CT) "__setattr__" = some (some (.builtin "object.__setattr__")))
    (mkCT : PySem.W.makesIn K CT = true)
    (kcCT : PySem.W.keepIn K (.ref CT) = true)
    (n0CT : PySem.W.findIn K (.ref CT) "backs" = some none)
    (n1CT : PySem.W.findIn K (.ref CT) "many" = some none)
    (haCT : PySem.W.findIn K (.ref CT) "__class__" = some (some (.builtin "object.__class__")))
    (hn0 : PySem.W.specialIn K (.builtin "object.__class__") "__get__" = some (some (.builtin "getset_descriptor.__get__")))
    (htk0 : PySem.W.takesIn K (.builtin "object.__class__") = some true)
    (hmCT : PySem.W.mroIn K CT (.type "object") = some true)
    (icCT : PySem.W.isClsIn K CT = true)
    (tyCT : PySem.W.typeIn K (.ref CT) = some (.type "type"))
    (suCT : PySem.W.subIn K (.type "tuple") (.ref CT) = some false)
    (nfCT : PySem.W.notFirst K CT (.type "tuple") = true)
    (aCC : PySem.W.nsIn K mainGlobals "Company" = some (some (.ref CC)))
    (pgCC : PySem.W.plainGet K CC Str.empty = true)
    (hdCC : PySem.W.hasDictIn K CC = true)
    (poCC : PySem.W.plainOver K CC = true)
    (saCC : PySem.W.findIn K (.ref CC) "__setattr__" = some (some (.builtin "object.__setattr__")))
    (mkCC : PySem.W.makesIn K CC = true)
    (kcCC : PySem.W.keepIn K (.ref CC) = true)
    (n0CC : PySem.W.findIn K (.ref CC) "ties" = some none)
    (n1CC : PySem.W.findIn K (.ref CC) "guests" = some none)
    (n2CC : PySem.W.findIn K (.ref CC) "rows" = some none)
    (n3CC : PySem.W.findIn K (.ref CC) "table" = some none)
    (n4CC : PySem.W.findIn K (.ref CC) "_places" = some none)
    (haCC : PySem.W.findIn K (.ref CC) "__class__" = some (some (.builtin "object.__class__")))
    (hmCC : PySem.W.mroIn K CC (.type "object") = some true)
    (icCC : PySem.W.isClsIn K CC = true)
    (tyCC : PySem.W.typeIn K (.ref CC) = some (.type "type"))
    (suCC : PySem.W.subIn K (.type "tuple") (.ref CC) = some false)
    (nfCC : PySem.W.notFirst K CC (.type "tuple") = true)
    (z_all : PySem.W.nsIn K mainGlobals "all" = some none)
    (aW : PySem.W.nsIn K mainGlobals "is_whole" = some (some (.ref f_W)))
    (lW : K.lookup f_W = some ⟨oc_W, od_W, .func (PySem.W.fnOf "is_whole" "is_whole" (defArgs s_is_whole) (defBody s_is_whole) (defScope s_is_whole) .none kv_W dc_W pm_W an_W cd_W ct_W), sl_W⟩)
    (cW : PySem.W.codeIn K cd_W "is_whole" = true)
    (kW : PySem.W.keepIn K (.ref f_W) = true)
    (aLB : PySem.W.nsIn K mainGlobals "is_label" = some (some (.ref f_LB)))
    (lLB : K.lookup f_LB = some ⟨oc_LB, od_LB, .func (PySem.W.fnOf "is_label" "is_label" (defArgs s_is_label) (defBody s_is_label) (defScope s_is_label) .none kv_LB dc_LB pm_LB an_LB cd_LB ct_LB), sl_LB⟩)
    (cLB : PySem.W.codeIn K cd_LB "is_label" = true)
    (kLB : PySem.W.keepIn K (.ref f_LB) = true)
    (aQ : PySem.W.nsIn K mainGlobals "is_sequence" = some (some (.ref f_Q)))
    (lQ : K.lookup f_Q = some ⟨oc_Q, od_Q, .func (PySem.W.fnOf "is_sequence" "is_sequence" (defArgs s_is_sequence) (defBody s_is_sequence) (defScope s_is_sequence) .none kv_Q dc_Q pm_Q an_Q cd_Q ct_Q), sl_Q⟩)
    (cQ : PySem.W.codeIn K cd_Q "is_sequence" = true)
    (kQ : PySem.W.keepIn K (.ref f_Q) = true)
    (aCK : PySem.W.nsIn K mainGlobals "ties_fault" = some (some (.ref f_CK)))
    (lCK : K.lookup f_CK = some ⟨oc_CK, od_CK, .func (PySem.W.fnOf "ties_fault" "ties_fault" (defArgs s_ties_fault) (defBody s_ties_fault) (defScope s_ties_fault) .none kv_CK dc_CK pm_CK an_CK cd_CK ct_CK), sl_CK⟩)
    (cCK : PySem.W.codeIn K cd_CK "ties_fault" = true)
    (kCK : PySem.W.keepIn K (.ref f_CK) = true)
    (atI : PySem.W.findIn K (.ref CT) "__init__" = some (some (.ref f_tI)))
    (itI : PySem.W.isFn K (.ref f_tI) = true)
    (ltI : K.lookup f_tI = some ⟨oc_tI, od_tI, .func (PySem.W.fnOf "__init__" "Ties.__init__" (defArgs s_Ties_init) (defBody s_Ties_init) (defScope s_Ties_init) .none kv_tI dc_tI pm_tI an_tI cd_tI ct_tI), sl_tI⟩)
    (ctI : PySem.W.codeIn K cd_tI "Ties.__init__" = true)
    (ktI : PySem.W.keepIn K (.ref f_tI) = true)
    (atH : PySem.W.findIn K (.ref CT) "has" = some (some (.ref f_tH)))
    (itH : PySem.W.isFn K (.ref f_tH) = true)
    (ltH : K.lookup f_tH = some ⟨oc_tH, od_tH, .func (PySem.W.fnOf "has" "Ties.has" (defArgs s_Ties_has) (defBody s_Ties_has) (defScope s_Ties_has) .none kv_tH dc_tH pm_tH an_tH cd_tH ct_tH), sl_tH⟩)
    (ctH : PySem.W.codeIn K cd_tH "Ties.has" = true)
    (ktH : PySem.W.keepIn K (.ref f_tH) = true)
    (atE : PySem.W.findIn K (.ref CT) "__eq__" = some (some (.ref f_tE)))
    (itE : PySem.W.isFn K (.ref f_tE) = true)
    (ltE : K.lookup f_tE = some ⟨oc_tE, od_tE, .func (PySem.W.fnOf "__eq__" "Ties.__eq__" (defArgs s_Ties_eq) (defBody s_Ties_eq) (defScope s_Ties_eq) .none kv_tE dc_tE pm_tE an_tE cd_tE ct_tE), sl_tE⟩)
    (ctE : PySem.W.codeIn K cd_tE "Ties.__eq__" = true)
    (ktE : PySem.W.keepIn K (.ref f_tE) = true)
    (aCR : PySem.W.nsIn K mainGlobals "_check_row" = some (some (.ref f_CR)))
    (lCR : K.lookup f_CR = some ⟨oc_CR, od_CR, .func (PySem.W.fnOf "_check_row" "_check_row" (defArgs s_check_row) (defBody s_check_row) (defScope s_check_row) .none kv_CR dc_CR pm_CR an_CR cd_CR ct_CR), sl_CR⟩)
    (cCR : PySem.W.codeIn K cd_CR "_check_row" = true)
    (kCR : PySem.W.keepIn K (.ref f_CR) = true)
    (aCC2 : PySem.W.nsIn K mainGlobals "_check_company" = some (some (.ref f_CC2)))
    (lCC2 : K.lookup f_CC2 = some ⟨oc_CC2, od_CC2, .func (PySem.W.fnOf "_check_company" "_check_company" (defArgs s_check_company) (defBody s_check_company) (defScope s_check_company) .none kv_CC2 dc_CC2 pm_CC2 an_CC2 cd_CC2 ct_CC2), sl_CC2⟩)
    (cCC2 : PySem.W.codeIn K cd_CC2 "_check_company" = true)
    (kCC2 : PySem.W.keepIn K (.ref f_CC2) = true)
    (aTO : PySem.W.nsIn K mainGlobals "_table_of" = some (some (.ref f_TO)))
    (lTO : K.lookup f_TO = some ⟨oc_TO, od_TO, .func (PySem.W.fnOf "_table_of" "_table_of" (defArgs s_table_of) (defBody s_table_of) (defScope s_table_of) .none kv_TO dc_TO pm_TO an_TO cd_TO ct_TO), sl_TO⟩)
    (cTO : PySem.W.codeIn K cd_TO "_table_of" = true)
    (kTO : PySem.W.keepIn K (.ref f_TO) = true)
    (acI : PySem.W.findIn K (.ref CC) "__init__" = some (some (.ref f_cI)))
    (icI : PySem.W.isFn K (.ref f_cI) = true)
    (lcI : K.lookup f_cI = some ⟨oc_cI, od_cI, .func (PySem.W.fnOf "__init__" "Company.__init__" (defArgs s_Company_init) (defBody s_Company_init) (defScope s_Company_init) (.ref TdcI) kv_cI dc_cI pm_cI an_cI cd_cI ct_cI), sl_cI⟩)
    (lTcI : K.lookup TdcI = some ⟨cTcI, dTcI, .seq #[.ref e1cI, .ref e2cI] nTcI, sTcI⟩)
    (ccI : PySem.W.codeIn K cd_cI "Company.__init__" = true)
    (kcI : PySem.W.keepIn K (.ref f_cI) = true)
    (acL : PySem.W.findIn K (.ref CC) "__len__" = some (some (.ref f_cL)))
    (icL : PySem.W.isFn K (.ref f_cL) = true)
    (lcL : K.lookup f_cL = some ⟨oc_cL, od_cL, .func (PySem.W.fnOf "__len__" "Company.__len__" (defArgs s_Company_len) (defBody s_Company_len) (defScope s_Company_len) .none kv_cL dc_cL pm_cL an_cL cd_cL ct_cL), sl_cL⟩)
    (ccL : PySem.W.codeIn K cd_cL "Company.__len__" = true)
    (kcL : PySem.W.keepIn K (.ref f_cL) = true)
    (acC : PySem.W.findIn K (.ref CC) "__contains__" = some (some (.ref f_cC)))
    (icC : PySem.W.isFn K (.ref f_cC) = true)
    (lcC : K.lookup f_cC = some ⟨oc_cC, od_cC, .func (PySem.W.fnOf "__contains__" "Company.__contains__" (defArgs s_Company_contains) (defBody s_Company_contains) (defScope s_Company_contains) .none kv_cC dc_cC pm_cC an_cC cd_cC ct_cC), sl_cC⟩)
    (ccC : PySem.W.codeIn K cd_cC "Company.__contains__" = true)
    (kcC : PySem.W.keepIn K (.ref f_cC) = true)
    (z_iter : PySem.W.nsIn K mainGlobals "iter" = some none)
    (acT : PySem.W.findIn K (.ref CC) "__iter__" = some (some (.ref f_cT)))
    (icT : PySem.W.isFn K (.ref f_cT) = true)
    (lcT : K.lookup f_cT = some ⟨oc_cT, od_cT, .func (PySem.W.fnOf "__iter__" "Company.__iter__" (defArgs s_Company_iter) (defBody s_Company_iter) (defScope s_Company_iter) .none kv_cT dc_cT pm_cT an_cT cd_cT ct_cT), sl_cT⟩)
    (ccT : PySem.W.codeIn K cd_cT "Company.__iter__" = true)
    (kcT : PySem.W.keepIn K (.ref f_cT) = true)
    (acE : PySem.W.findIn K (.ref CC) "__eq__" = some (some (.ref f_cE)))
    (icE : PySem.W.isFn K (.ref f_cE) = true)
    (lcE : K.lookup f_cE = some ⟨oc_cE, od_cE, .func (PySem.W.fnOf "__eq__" "Company.__eq__" (defArgs s_Company_eq) (defBody s_Company_eq) (defScope s_Company_eq) .none kv_cE dc_cE pm_cE an_cE cd_cE ct_cE), sl_cE⟩)
    (ccE : PySem.W.codeIn K cd_cE "Company.__eq__" = true)
    (kcE : PySem.W.keepIn K (.ref f_cE) = true)
    (acP : PySem.W.findIn K (.ref CC) "place_of" = some (some (.ref f_cP)))
    (icP : PySem.W.isFn K (.ref f_cP) = true)
    (lcP : K.lookup f_cP = some ⟨oc_cP, od_cP, .func (PySem.W.fnOf "place_of" "Company.place_of" (defArgs s_Company_place_of) (defBody s_Company_place_of) (defScope s_Company_place_of) .none kv_cP dc_cP pm_cP an_cP cd_cP ct_cP), sl_cP⟩)
    (ccP : PySem.W.codeIn K cd_cP "Company.place_of" = true)
    (kcP : PySem.W.keepIn K (.ref f_cP) = true)
    (acO : PySem.W.findIn K (.ref CC) "tie_of" = some (some (.ref f_cO)))
    (icO : PySem.W.isFn K (.ref f_cO) = true)
    (lcO : K.lookup f_cO = some ⟨oc_cO, od_cO, .func (PySem.W.fnOf "tie_of" "Company.tie_of" (defArgs s_Company_tie_of) (defBody s_Company_tie_of) (defScope s_Company_tie_of) .none kv_cO dc_cO pm_cO an_cO cd_cO ct_cO), sl_cO⟩)
    (ccO : PySem.W.codeIn K cd_cO "Company.tie_of" = true)
    (kcO : PySem.W.keepIn K (.ref f_cO) = true)
    (acR : PySem.W.findIn K (.ref CC) "row_of" = some (some (.ref f_cR)))
    (icR : PySem.W.isFn K (.ref f_cR) = true)
    (lcR : K.lookup f_cR = some ⟨oc_cR, od_cR, .func (PySem.W.fnOf "row_of" "Company.row_of" (defArgs s_Company_row_of) (defBody s_Company_row_of) (defScope s_Company_row_of) .none kv_cR dc_cR pm_cR an_cR cd_cR ct_cR), sl_cR⟩)
    (ccR : PySem.W.codeIn K cd_cR "Company.row_of" = true)
    (kcR : PySem.W.keepIn K (.ref f_cR) = true)
    (aX : PySem.W.nsIn K mainGlobals "_law_mix" = some (some (.ref f_X)))
    (lX : K.lookup f_X = some ⟨oc_X, od_X, .func (PySem.W.fnOf "_law_mix" "_law_mix" (defArgs s_Lmix) (defBody s_Lmix) (defScope s_Lmix) .none kv_X dc_X pm_X an_X cd_X ct_X), sl_X⟩)
    (cX : PySem.W.codeIn K cd_X "_law_mix" = true)
    (kX : PySem.W.keepIn K (.ref f_X) = true)
    (aH : PySem.W.nsIn K mainGlobals "_law_hand" = some (some (.ref f_H)))
    (lH : K.lookup f_H = some ⟨oc_H, od_H, .func (PySem.W.fnOf "_law_hand" "_law_hand" (defArgs s_Lhand) (defBody s_Lhand) (defScope s_Lhand) .none kv_H dc_H pm_H an_H cd_H ct_H), sl_H⟩)
    (cH : PySem.W.codeIn K cd_H "_law_hand" = true)
    (kH : PySem.W.keepIn K (.ref f_H) = true)
    (aD : PySem.W.nsIn K mainGlobals "_law_draw" = some (some (.ref f_D)))
    (lD : K.lookup f_D = some ⟨oc_D, od_D, .func (PySem.W.fnOf "_law_draw" "_law_draw" (defArgs s_Ldraw) (defBody s_Ldraw) (defScope s_Ldraw) .none kv_D dc_D pm_D an_D cd_D ct_D), sl_D⟩)
    (cD : PySem.W.codeIn K cd_D "_law_draw" = true)
    (kD : PySem.W.keepIn K (.ref f_D) = true)
    (aK : PySem.W.nsIn K mainGlobals "_law_backs" = some (some (.ref f_K)))
    (lK : K.lookup f_K = some ⟨oc_K, od_K, .func (PySem.W.fnOf "_law_backs" "_law_backs" (defArgs s_Lbacks) (defBody s_Lbacks) (defScope s_Lbacks) .none kv_K dc_K pm_K an_K cd_K ct_K), sl_K⟩)
    (cK : PySem.W.codeIn K cd_K "_law_backs" = true)
    (kK : PySem.W.keepIn K (.ref f_K) = true)
    (z_max : PySem.W.nsIn K mainGlobals "max" = some none)
    (aB : PySem.W.nsIn K mainGlobals "_law_labels" = some (some (.ref f_B)))
    (lB : K.lookup f_B = some ⟨oc_B, od_B, .func (PySem.W.fnOf "_law_labels" "_law_labels" (defArgs s_Llabels) (defBody s_Llabels) (defScope s_Llabels) .none kv_B dc_B pm_B an_B cd_B ct_B), sl_B⟩)
    (cB : PySem.W.codeIn K cd_B "_law_labels" = true)
    (kB : PySem.W.keepIn K (.ref f_B) = true)
    (aA : PySem.W.nsIn K mainGlobals "_law_any_rows" = some (some (.ref f_A)))
    (lA : K.lookup f_A = some ⟨oc_A, od_A, .func (PySem.W.fnOf "_law_any_rows" "_law_any_rows" (defArgs s_Lany) (defBody s_Lany) (defScope s_Lany) .none kv_A dc_A pm_A an_A cd_A ct_A), sl_A⟩)
    (cA : PySem.W.codeIn K cd_A "_law_any_rows" = true)
    (kA : PySem.W.keepIn K (.ref f_A) = true)
    (aT : PySem.W.nsIn K mainGlobals "_law_table_of" = some (some (.ref f_T)))
    (lT : K.lookup f_T = some ⟨oc_T, od_T, .func (PySem.W.fnOf "_law_table_of" "_law_table_of" (defArgs s_Ltab) (defBody s_Ltab) (defScope s_Ltab) .none kv_T dc_T pm_T an_T cd_T ct_T), sl_T⟩)
    (cT : PySem.W.codeIn K cd_T "_law_table_of" = true)
    (kT : PySem.W.keepIn K (.ref f_T) = true)
    (aP : PySem.W.nsIn K mainGlobals "_law_pick" = some (some (.ref f_P)))
    (lP : K.lookup f_P = some ⟨oc_P, od_P, .func (PySem.W.fnOf "_law_pick" "_law_pick" (defArgs s_Lpick) (defBody s_Lpick) (defScope s_Lpick) .none kv_P dc_P pm_P an_P cd_P ct_P), sl_P⟩)
    (cP : PySem.W.codeIn K cd_P "_law_pick" = true)
    (kP : PySem.W.keepIn K (.ref f_P) = true)
    (z_repr : PySem.W.nsIn K mainGlobals "repr" = some none)
    (nsCLCN : PySem.W.subIn K (.ref CL) (.ref CN) = some false)
    (lg0 : K.lookup e1cI = some ⟨.type "tuple", dg0, .seq #[] ng0, sg0⟩)
    (lg1 : K.lookup e2cI = some ⟨.type "tuple", dg1, .seq #[] ng1, sg1⟩)
    (aY : PySem.W.nsIn K mainGlobals "_law_says" = some (some (.ref f_Y)))
    (lY : K.lookup f_Y = some ⟨oc_Y, od_Y, .func (PySem.W.fnOf "_law_says" "_law_says" (defArgs s_Lsays) (defBody s_Lsays) (defScope s_Lsays) .none kv_Y dc_Y pm_Y an_Y cd_Y ct_Y), sl_Y⟩)
    (cY : PySem.W.codeIn K cd_Y "_law_says" = true)
    (kY : PySem.W.keepIn K (.ref f_Y) = true)
    (aO : PySem.W.nsIn K mainGlobals "_law_told" = some (some (.ref f_O)))
    (lO : K.lookup f_O = some ⟨oc_O, od_O, .func (PySem.W.fnOf "_law_told" "_law_told" (defArgs s_Ltold) (defBody s_Ltold) (defScope s_Ltold) .none kv_O dc_O pm_O an_O cd_O ct_O), sl_O⟩)
    (cO : PySem.W.codeIn K cd_O "_law_told" = true)
    (kO : PySem.W.keepIn K (.ref f_O) = true)
    (aN : PySem.W.nsIn K mainGlobals "_law_row_refused" = some (some (.ref f_N)))
    (lN : K.lookup f_N = some ⟨oc_N, od_N, .func (PySem.W.fnOf "_law_row_refused" "_law_row_refused" (defArgs s_Lrr) (defBody s_Lrr) (defScope s_Lrr) .none kv_N dc_N pm_N an_N cd_N ct_N), sl_N⟩)
    (cN : PySem.W.codeIn K cd_N "_law_row_refused" = true)
    (kN : PySem.W.keepIn K (.ref f_N) = true)
    (aR : PySem.W.nsIn K mainGlobals "_law_right" = some (some (.ref f_R)))
    (lR : K.lookup f_R = some ⟨oc_R, od_R, .func (PySem.W.fnOf "_law_right" "_law_right" (defArgs s_Lright) (defBody s_Lright) (defScope s_Lright) .none kv_R dc_R pm_R an_R cd_R ct_R), sl_R⟩)
    (cR : PySem.W.codeIn K cd_R "_law_right" = true)
    (kR : PySem.W.keepIn K (.ref f_R) = true)
    (aS : PySem.W.nsIn K mainGlobals "_law_strangers" = some (some (.ref f_S)))
    (lS : K.lookup f_S = some ⟨oc_S, od_S, .func (PySem.W.fnOf "_law_strangers" "_law_strangers" (defArgs s_Lstr) (defBody s_Lstr) (defScope s_Lstr) .none kv_S dc_S pm_S an_S cd_S ct_S), sl_S⟩)
    (cS : PySem.W.codeIn K cd_S "_law_strangers" = true)
    (kS : PySem.W.keepIn K (.ref f_S) = true)
    (aV : PySem.W.nsIn K mainGlobals "law" = some (some (.ref f_V)))
    (lV : K.lookup f_V = some ⟨oc_V, od_V, .func (PySem.W.fnOf "law" "law" (defArgs s_law) (defBody s_law) (defScope s_law) .none kv_V dc_V pm_V an_V cd_V ct_V), sl_V⟩)
    (cV : PySem.W.codeIn K cd_V "law" = true)
    (kV : PySem.W.keepIn K (.ref f_V) = true)
    : ∃ fd : FuncData, (∀ (s : Shared) (v : Value), BindsTo s fd ⟨[v], []⟩ [("_law_script", v)]) ∧ ∀ base : Heap, K.In base → base.Ns mainGlobals mg → FnOk l.prog w K mg base CX0 8 fa fd ["_law_script"] (spLaw K) := by
  have e := hfa.symm.trans (PySem.W.mg_of X G aV)
  cases e
  have n_len := PySem.W.mg_none_of X G z_len
  have n_isinstance := PySem.W.mg_none_of X G z_isinstance
  have n_int := PySem.W.mg_none_of X G z_int
  have n_bool := PySem.W.mg_none_of X G z_bool
  have n_list := PySem.W.mg_none_of X G z_list
  have n_tuple := PySem.W.mg_none_of X G z_tuple
  have n_range := PySem.W.mg_none_of X G z_range
  have n_abs := PySem.W.mg_none_of X G z_abs
  have n_enumerate := PySem.W.mg_none_of X G z_enumerate
  have mM := PySem.W.mg_of X G gM
  have mL := PySem.W.mg_of X G gL
  have mG := PySem.W.mg_of X G gG
  have FxCB := fun_mk (st := s_BadTies_init) lxCB cxCB kxCB
  have bxCB := FxCB.binds (ps := ["self", "what"]) fun _ _ _ _ _ _ us hl => match us, hl with | [_, _], _ => rfl
  have oCB : OexC K CB := ⟨⟨_, _, _, _, _, _, _, _, _, _, _, _, _, _, _, xCB, by first | rfl | decide +kernel⟩, saCB, exCB, tyCB, kcCB⟩
  have xfCB : XfC K CB := ⟨gaCB, ggCB, exCB, hdCB⟩
  have FxCE := fun_mk (st := s_BadCompany_init) lxCE cxCE kxCE
  have bxCE := FxCE.binds (ps := ["self", "index", "what"]) fun _ _ _ _ _ _ us hl => match us, hl with | [_, _, _], _ => rfl
  have oCE : OexC K CE := ⟨⟨_, _, _, _, _, _, _, _, _, _, _, _, _, _, _, xCE, by first | rfl | decide +kernel⟩, saCE, exCE, tyCE, kcCE⟩
  have xfCE : XfC K CE := ⟨gaCE, ggCE, exCE, hdCE⟩
  have FxCN := fun_mk (st := s_NoGuest_init) lxCN cxCN kxCN
  have bxCN := FxCN.binds (ps := ["self", "label"]) fun _ _ _ _ _ _ us hl => match us, hl with | [_, _], _ => rfl
  have oCN : OexC K CN := ⟨⟨_, _, _, _, _, _, _, _, _, _, _, _, _, _, _, xCN, by first | rfl | decide +kernel⟩, saCN, exCN, tyCN, kcCN⟩
  have xfCN : XfC K CN := ⟨gaCN, ggCN, exCN, hdCN⟩
  have FxCL := fun_mk (st := s_Alike_init) lxCL cxCL kxCL
  have bxCL := FxCL.binds (ps := ["self", "label"]) fun _ _ _ _ _ _ us hl => match us, hl with | [_, _], _ => rfl
  have oCL : OexC K CL := ⟨⟨_, _, _, _, _, _, _, _, _, _, _, _, _, _, _, xCL, by first | rfl | decide +kernel⟩, saCL, exCL, tyCL, kcCL⟩
  have xfCL : XfC K CL := ⟨gaCL, ggCL, exCL, hdCL⟩
  have clCT : Cls K CT := ⟨pgCT, hdCT, poCT, saCT⟩
  have iscCT : C8.InsC K CT := ⟨clCT, haCT, hn0, htk0, hmCT, kit_me⟩
  have TC : TiC K CT := ⟨clCT, n0CT, n1CT⟩
  have TX : TiX K mg CT := { toTiC := TC, isc := iscCT, nt := kit_no icCT tyCT suCT, nf := nfCT, mT := PySem.W.mg_of X G aCT }
  have clCC : Cls K CC := ⟨pgCC, hdCC, poCC, saCC⟩
  have iscCC : C8.InsC K CC := ⟨clCC, haCC, hn0, htk0, hmCC, kit_me⟩
  have COC : CoC K CC := ⟨clCC, n0CC, n1CC, n2CC, n3CC, n4CC⟩
  have COX : CoX K mg CC := { toCoC := COC, isc := iscCC, mC := PySem.W.mg_of X G aCC }
  have n_all := PySem.W.mg_none_of X G z_all
  have FW := fun_mk (st := s_is_whole) lW cW kW
  have bW := FW.binds (ps := ["thing", "low", "high"]) fun _ _ _ _ _ _ us hl => match us, hl with | [_, _, _], _ => rfl
  have FLB := fun_mk (st := s_is_label) lLB cLB kLB
  have bLB := FLB.binds (ps := ["thing"]) fun _ _ _ _ _ _ us hl => match us, hl with | [_], _ => rfl
  have FQ := fun_mk (st := s_is_sequence) lQ cQ kQ
  have bQ := FQ.binds (ps := ["thing"]) fun _ _ _ _ _ _ us hl => match us, hl with | [_], _ => rfl
  have FCK := fun_mk (st := s_ties_fault) lCK cCK kCK
  have bCK := FCK.binds (ps := ["backs"]) fun _ _ _ _ _ _ us hl => match us, hl with | [_], _ => rfl
  have FtI := fun_mk (st := s_Ties_init) ltI ctI ktI
  have btI := FtI.binds (ps := ["self", "backs"]) fun _ _ _ _ _ _ us hl => match us, hl with | [_, _], _ => rfl
  have FtH := fun_mk (st := s_Ties_has) ltH ctH ktH
  have btH := FtH.binds (ps := ["self", "thing"]) fun _ _ _ _ _ _ us hl => match us, hl with | [_, _], _ => rfl
  have FtE := fun_mk (st := s_Ties_eq) ltE ctE ktE
  have btE := FtE.binds (ps := ["self", "other"]) fun _ _ _ _ _ _ us hl => match us, hl with | [_, _], _ => rfl
  have FCR := fun_mk (st := s_check_row) lCR cCR kCR
  have bCR := FCR.binds (ps := ["ties", "index", "row", "length"]) fun _ _ _ _ _ _ us hl => match us, hl with | [_, _, _, _], _ => rfl
  have FCC2 := fun_mk (st := s_check_company) lCC2 cCC2 kCC2
  have bCC2 := FCC2.binds (ps := ["ties", "guests", "rows"]) fun _ _ _ _ _ _ us hl => match us, hl with | [_, _, _], _ => rfl
  have FTO := fun_mk (st := s_table_of) lTO cTO kTO
  have bTO := FTO.binds (ps := ["ties", "rows"]) fun _ _ _ _ _ _ us hl => match us, hl with | [_, _], _ => rfl
  have FcI := fund_mk (st := s_Company_init) lcI lTcI ccI kcI
  have bcI := fund_binds (ps := ["self", "ties", "guests", "rows"]) FcI
    fun _ _ _ _ _ _ _ us its hl hi => match us, its, hl, hi with | [_, _, _, _], [_, _], _, _ => ⟨_, rfl, rfl⟩
  have FcL := fun_mk (st := s_Company_len) lcL ccL kcL
  have bcL := FcL.binds (ps := ["self"]) fun _ _ _ _ _ _ us hl => match us, hl with | [_], _ => rfl
  have FcC := fun_mk (st := s_Company_contains) lcC ccC kcC
  have bcC := FcC.binds (ps := ["self", "label"]) fun _ _ _ _ _ _ us hl => match us, hl with | [_, _], _ => rfl
  have n_iter := PySem.W.mg_none_of X G z_iter
  have FcT := fun_mk (st := s_Company_iter) lcT ccT kcT
  have bcT := FcT.binds (ps := ["self"]) fun _ _ _ _ _ _ us hl => match us, hl with | [_], _ => rfl
  have FcE := fun_mk (st := s_Company_eq) lcE ccE kcE
  have bcE := FcE.binds (ps := ["self", "other"]) fun _ _ _ _ _ _ us hl => match us, hl with | [_, _], _ => rfl
  have FcP := fun_mk (st := s_Company_place_of) lcP ccP kcP
  have bcP := FcP.binds (ps := ["self", "label"]) fun _ _ _ _ _ _ us hl => match us, hl with | [_, _], _ => rfl
  have FcO := fun_mk (st := s_Company_tie_of) lcO ccO kcO
  have bcO := FcO.binds (ps := ["self", "x", "y"]) fun _ _ _ _ _ _ us hl => match us, hl with | [_, _, _], _ => rfl
  have FcR := fun_mk (st := s_Company_row_of) lcR ccR kcR
  have bcR := FcR.binds (ps := ["self", "label"]) fun _ _ _ _ _ _ us hl => match us, hl with | [_, _], _ => rfl
  have FX := fun_mk (st := s_Lmix) lX cX kX
  have bX := FX.binds (ps := ["_law_number", "_law_turn"]) fun _ _ _ _ _ _ us hl => match us, hl with | [_, _], _ => rfl
  have FH := fun_mk (st := s_Lhand) lH cH kH
  have bH := FH.binds (ps := ["_law_script"]) fun _ _ _ _ _ _ us hl => match us, hl with | [_], _ => rfl
  have FD := fun_mk (st := s_Ldraw) lD cD kD
  have bD := FD.binds (ps := ["_law_hand_here", "_law_many"]) fun _ _ _ _ _ _ us hl => match us, hl with | [_, _], _ => rfl
  have FK := fun_mk (st := s_Lbacks) lK cK kK
  have bK := FK.binds (ps := ["_law_hand_here", "_law_many"]) fun _ _ _ _ _ _ us hl => match us, hl with | [_, _], _ => rfl
  have n_max := PySem.W.mg_none_of X G z_max
  have FB := fun_mk (st := s_Llabels) lB cB kB
  have bB := FB.binds (ps := ["_law_hand_here", "_law_many"]) fun _ _ _ _ _ _ us hl => match us, hl with | [_, _], _ => rfl
  have FA := fun_mk (st := s_Lany) lA cA kA
  have bA := FA.binds (ps := ["_law_hand_here", "_law_backs_here", "_law_many"]) fun _ _ _ _ _ _ us hl => match us, hl with | [_, _, _], _ => rfl
  have FT := fun_mk (st := s_Ltab) lT cT kT
  have bT := FT.binds (ps := ["_law_backs_here", "_law_rows"]) fun _ _ _ _ _ _ us hl => match us, hl with | [_, _], _ => rfl
  have FP := fun_mk (st := s_Lpick) lP cP kP
  have bP := FP.binds (ps := ["_law_hand_here", "_law_things"]) fun _ _ _ _ _ _ us hl => match us, hl with | [_, _], _ => rfl
  have n_repr := PySem.W.mg_none_of X G z_repr
  have FY := fun_mk (st := s_Lsays) lY cY kY
  have bY := FY.binds (ps := ["_law_told_here", "_law_due"]) fun _ _ _ _ _ _ us hl => match us, hl with | [_, _], _ => rfl
  have FO := fun_mk (st := s_Ltold) lO cO kO
  have bO := FO.binds (ps := ["_law_company", "_law_x", "_law_y"]) fun _ _ _ _ _ _ us hl => match us, hl with | [_, _, _], _ => rfl
  have FN := fun_mk (st := s_Lrr) lN cN kN
  have bN := FN.binds (ps := ["_law_company", "_law_label"]) fun _ _ _ _ _ _ us hl => match us, hl with | [_, _], _ => rfl
  have FR := fun_mk (st := s_Lright) lR cR kR
  have bR := FR.binds (ps := ["_law_company", "_law_backs_here", "_law_labels_here", "_law_rows"]) fun _ _ _ _ _ _ us hl => match us, hl with | [_, _, _, _], _ => rfl
  have FS := fun_mk (st := s_Lstr) lS cS kS
  have bS := FS.binds (ps := ["_law_hand_here", "_law_company", "_law_labels_here"]) fun _ _ _ _ _ _ us hl => match us, hl with | [_, _, _], _ => rfl
  have FV := fun_mk (st := s_law) lV cV kV
  have bV := FV.binds (ps := ["_law_script"]) fun _ _ _ _ _ _ us hl => match us, hl with | [_], _ => rfl
  refine ⟨PySem.W.fnOf "law" "law" (defArgs s_law) (defBody s_law) (defScope s_law) .none kv_V dc_V pm_V an_V cd_V ct_V, fun s v => .of_eq rfl, fun base KB GB => ?_⟩
  have ECB : Ex l.prog w K mg base "BadTies" "what" CB f_xCB _ ["self", "what"] := ⟨oCB, axCB, ixCB, ok_BadTies_init FxCB oCB no0CB, bxCB, PySem.W.mg_of X G aCB, xfCB, no0CB, exm_own exCB icCB tyCB scCB⟩
  have ECE : Ex2 l.prog w K mg base "BadCompany" "index" "what" CE f_xCE _ ["self", "index", "what"] := ⟨oCE, axCE, ixCE, ok_BadCompany_init FxCE oCE no0CE no1CE, bxCE, PySem.W.mg_of X G aCE, xfCE, no0CE, no1CE, exm_own exCE icCE tyCE scCE⟩
  have ECN : Ex l.prog w K mg base "NoGuest" "label" CN f_xCN _ ["self", "label"] := ⟨oCN, axCN, ixCN, ok_NoGuest_init FxCN oCN no0CN, bxCN, PySem.W.mg_of X G aCN, xfCN, no0CN, exm_own exCN icCN tyCN scCN⟩
  have ECL : Ex l.prog w K mg base "Alike" "label" CL f_xCL _ ["self", "label"] := ⟨oCL, axCL, ixCL, ok_Alike_init FxCL oCL no0CL, bxCL, PySem.W.mg_of X G aCL, xfCL, no0CL, exm_own exCL icCL tyCL scCL⟩
  have GW : Cal l.prog w K mg base CX0 1 "is_whole" f_W _ ["thing", "low", "high"] spWhole := ⟨ok_is_whole FW n_isinstance n_int n_bool, PySem.W.mg_of X G aW, kW, bW⟩
  have GLB : Cal l.prog w K mg base CX0 2 "is_label" f_LB _ ["thing"] spLabel := ⟨ok_is_label FLB GW ⟨_, mL⟩, PySem.W.mg_of X G aLB, kLB, bLB⟩
  have GQ : Cal l.prog w K mg base CX0 1 "is_sequence" f_Q _ ["thing"] spSeq := ⟨ok_is_sequence FQ n_isinstance n_list n_tuple, PySem.W.mg_of X G aQ, kQ, bQ⟩
  have GCK : Cal l.prog w K mg base CX0 2 "ties_fault" f_CK _ ["backs"] spFault := ⟨ok_ties_fault FCK n_len n_range n_all ⟨_, mM⟩ GQ GW, PySem.W.mg_of X G aCK, kCK, bCK⟩
  have MIT : Mk K CT f_tI := ⟨mkCT, atI, itI, kcCT⟩
  have FIT := ok_Ties_init (P := l.prog) (w := w) (base := base) FtI TC n_len n_tuple GCK ECB
  have MtH : Mt l.prog w K mg base CX0 2 CT "has" f_tH _ ["self", "thing"] (spHas CT) := ⟨⟨atH, itH, ktH⟩, ok_Ties_has FtH TC GW, btH⟩
  have FET := ok_Ties_eq (P := l.prog) (w := w) (base := base) FtE TX n_isinstance
  have GCR : Cal l.prog w K mg base (L2.CX l.prog w) 3 "_check_row" f_CR _ ["ties", "index", "row", "length"] (spRow CT CE) := ⟨ok_check_row FCR TC n_len GQ MtH ECE, PySem.W.mg_of X G aCR, kCR, bCR⟩
  have GCC2 : Cal l.prog w K mg base (L2.CX l.prog w) 4 "_check_company" f_CC2 _ ["ties", "guests", "rows"] (spCC CT CE) := ⟨ok_check_company FCC2 n_len n_enumerate ⟨_, mG⟩ GQ GLB GCR ECE, PySem.W.mg_of X G aCC2, kCC2, bCC2⟩
  have GTO : Cal l.prog w K mg base CX0 1 "_table_of" f_TO _ ["ties", "rows"] (spTable CT) := ⟨ok_table_of FTO TC n_len n_tuple n_enumerate, PySem.W.mg_of X G aTO, kTO, bTO⟩
  have MIC : Mk K CC f_cI := ⟨mkCC, acI, icI, kcCC⟩
  have FIC := ok_Company_init (P := l.prog) (w := w) (base := base) FcI COC n_tuple n_enumerate GCC2 GTO
  have FLC := ok_Company_len (P := l.prog) (w := w) (base := base) (C := CT) FcL COC n_len
  have FCC := ok_Company_contains (P := l.prog) (w := w) (base := base) (C := CT) FcC COC GLB
  have FTC := ok_Company_iter (P := l.prog) (w := w) (base := base) (C := CT) FcT COC n_iter
  have FEC := ok_Company_eq (P := l.prog) (w := w) (base := base) FcE TX COX n_isinstance FET atE itE btE
  have McP : Mt l.prog w K mg base (L2.CX l.prog w) 4 CC "place_of" f_cP _ ["self", "label"] (spCPlace CT CC CN) := ⟨⟨acP, icP, kcP⟩, ok_Company_place_of FcP COC FCC acC icC bcC ECN, bcP⟩
  have McO : Mt l.prog w K mg base (L2.CX l.prog w) 5 CC "tie_of" f_cO _ ["self", "x", "y"] (spCTie CT CC CN CL) := ⟨⟨acO, icO, kcO⟩, ok_Company_tie_of FcO COC McP ECL, bcO⟩
  have McR : Mt l.prog w K mg base (L2.CX l.prog w) 5 CC "row_of" f_cR _ ["self", "label"] (spCRow CT CC CN) := ⟨⟨acR, icR, kcR⟩, ok_Company_row_of FcR COC McP, bcR⟩
  have GX : Cal l.prog w K mg base CX0 1 "_law_mix" f_X _ ["_law_number", "_law_turn"] spMix := ⟨ok_Lmix FX n_int, PySem.W.mg_of X G aX, kX, bX⟩
  have GH : Cal l.prog w K mg base CX0 1 "_law_hand" f_H _ ["_law_script"] (spHand K) := ⟨ok_Lhand FH n_int n_abs n_enumerate, PySem.W.mg_of X G aH, kH, bH⟩
  have GD : Cal l.prog w K mg base CX0 2 "_law_draw" f_D _ ["_law_hand_here", "_law_many"] spDraw := ⟨ok_Ldraw FD n_int n_len GX, PySem.W.mg_of X G aD, kD, bD⟩
  have GK : Cal l.prog w K mg base CX0 3 "_law_backs" f_K _ ["_law_hand_here", "_law_many"] spBacks := ⟨ok_Lbacks FK n_list n_len n_range GD, PySem.W.mg_of X G aK, kK, bK⟩
  have GB : Cal l.prog w K mg base CX0 3 "_law_labels" f_B _ ["_law_hand_here", "_law_many"] spLabels := ⟨ok_Llabels FB n_range n_max GD, PySem.W.mg_of X G aB, kB, bB⟩
  have GA : Cal l.prog w K mg base CX0 3 "_law_any_rows" f_A _ ["_law_hand_here", "_law_backs_here", "_law_many"] spAny := ⟨ok_Lany FA n_len n_range GD, PySem.W.mg_of X G aA, kA, bA⟩
  have GT : Cal l.prog w K mg base CX0 1 "_law_table_of" f_T _ ["_law_backs_here", "_law_rows"] spLTab := ⟨ok_Ltab FT n_len n_range, PySem.W.mg_of X G aT, kT, bT⟩
  have GP : Cal l.prog w K mg base CX0 3 "_law_pick" f_P _ ["_law_hand_here", "_law_things"] spPick := ⟨ok_Lpick FP n_len GD, PySem.W.mg_of X G aP, kP, bP⟩
  have GY : Cal l.prog w K mg base CX0 1 "_law_says" f_Y _ ["_law_told_here", "_law_due"] spSays := ⟨ok_Lsays FY n_isinstance n_bool, PySem.W.mg_of X G aY, kY, bY⟩
  have GO : Cal l.prog w K mg base CX0 6 "_law_told" f_O _ ["_law_company", "_law_x", "_law_y"] (spTold CT CC) := ⟨ok_Ltold FO COC n_isinstance n_bool n_int McO ECN ECL (exm_of exCN icCN tyCN nsCLCN), PySem.W.mg_of X G aO, kO, bO⟩
  have GN : Cal l.prog w K mg base CX0 6 "_law_row_refused" f_N _ ["_law_company", "_law_label"] (spRR CT CC) := ⟨ok_Lrr FN COC n_isinstance n_bool McR ECN, PySem.W.mg_of X G aN, kN, bN⟩
  have GR : Cal l.prog w K mg base CX0 7 "_law_right" f_R _ ["_law_company", "_law_backs_here", "_law_labels_here", "_law_rows"] (spRight2 CT CC) := ⟨ok_Lright FR TC COC n_len n_isinstance n_tuple n_list n_range GT FLC acL icL bcL FTC acT icT bcT FCC acC icC bcC McR GO, PySem.W.mg_of X G aR, kR, bR⟩
  have GS : Cal l.prog w K mg base CX0 7 "_law_strangers" f_S _ ["_law_hand_here", "_law_company", "_law_labels_here"] (spStr CT CC) := ⟨ok_Lstr FS COC n_repr GP FCC acC icC bcC GO GN, PySem.W.mg_of X G aS, kS, bS⟩
  have GQK : Cal l.prog w K mg base CX0 1 "is_sequence" f_Q _ ["thing"] (spSeqK K) := ⟨ok_is_sequenceK FQ n_isinstance n_list n_tuple, PySem.W.mg_of X G aQ, kQ, bQ⟩
  have GCK2 : Cal l.prog w K mg base (L2.CX l.prog w) 4 "_check_company" f_CC2 _ ["ties", "guests", "rows"] (spCCK K) := ⟨ok_check_companyK FCC2 n_len n_enumerate ⟨_, mG⟩ GQK GLB GCR ECE, PySem.W.mg_of X G aCC2, kCC2, bCC2⟩
  have FI0 := ok_Company_init0 (P := l.prog) (w := w) (base := base) FcI COC n_tuple n_enumerate GCK2 GTO
  have kg0 : KT K e1cI := ⟨_, #[], ng0, lg0, rfl, rfl, by decide, .nil⟩
  have kr0 : KT K e2cI := ⟨_, #[], ng1, lg1, rfl, rfl, by decide, .nil⟩
  have COZ : CoZ K mg CC := { toCoX := COX, nf := nfCC }
  have FLN := ok_Company_lenN (P := l.prog) (w := w) (base := base) (C := CT) FcL COC n_len
  have FEN := ok_Company_eqN (P := l.prog) (w := w) (base := base) FcE TX COX n_isinstance FET atE itE btE
  obtain ⟨ds0, vd0, bd0⟩ := fund_binds0 (ps := ["self", "ties", "guests", "rows"]) (n := 2) FcI rfl fun _ _ _ _ _ _ _ us its hl hi => match us, its, hl, hi with | [_, _], [_, _], _, _ => ⟨_, rfl, rfl⟩
  exact ok_law FV n_len n_list n_tuple n_range ⟨_, mG⟩ GH GD GK GB GA GR GS GY (PySem.W.mg_of X G aCT) (PySem.W.mg_of X G aCC) MIT FIT btI MIC FIC bcI FI0 bd0 vd0 kg0 kr0 COZ FEC FEN acE icE bcE FLN acL icL bcL
theorem walk {l : PySem.W.OpenLaw} {q : Program} {loose : List Str} {XP : (Str → Option Value) → Heap → Prop} {YP : World → Heap → Prop} {d : DefRec} {K : Params → PySem.W.Frag} (hn : l.most = some 63) (hdf : d.params.defaults = [])
    (hY : ∀ (w : World) (h : Heap), YP w h → (K w.params).In h)
    (F : ∀ (w : World) (mg : Str → Option Value) (fa : Addr) (h : Heap), (K w.params).In h → h.Ns mainGlobals mg → mg d.name = some (.ref fa) →
      ∃ fd : FuncData, (∀ (s : Shared) (u : Value), BindsTo s fd ⟨[u], []⟩ [("_law_script", u)]) ∧ ∀ base : Heap, (K w.params).In base → base.Ns mainGlobals mg → FnOk l.prog w (K w.params) mg base CX0 8 fa fd ["_law_script"] (spLaw (K w.params))) :
    PySem.W.WalkO q loose XP YP l.row.toRowW d [] (fun f vs => PySem.call f vs) :=
  L2.walk_of (n := 63) (k := 8) (x := "_law_script") (CX := fun _ => CX0) (sp := fun w => spLaw (K w.params)) hn (by decide) hdf ⟨rfl, by decide, by decide⟩ hY F (fun _ _ a ns hl _ hS => ⟨a, ns, rfl, hS, hl, fun _ => rfl⟩) fun _ _ _ _ _ z => z
end J

set_option Elab.async false
open PySem PySem.W PyProof.Rows in
set_option maxRecDepth 100000 in
set_option maxHeartbeats 0 in
theorem PySem.Challenge.cw_joinedguests_k02_whole_companies_told_gu_holds : PySem.Challenge.rw_joinedguests_k02_whole_companies_told_gu.Holds := by
  w_on; o_law; k_head; (case hw => w_witness2)
  k_fill
  refine J.walk (l := PySem.Challenge.rw_joinedguests_k02_whole_companies_told_gu) rfl rfl (fun w h Y => PySem.W.kIn_of Y) ?F
  case F =>
    intro w mg fa h KX G hmg
    refine' J.all_mk KX G hmg ?z_len ?z_isinstance ?z_int ?z_bool ?z_list ?z_tuple ?z_range ?z_abs ?z_enumerate ?gM ?gL ?gG ?aCB ?axCB ?ixCB ?lxCB ?cxCB ?kxCB ?xCB ?saCB ?gaCB ?ggCB ?no0CB ?kcCB ?exCB ?tyCB ?hdCB ?icCB ?scCB ?aCE ?axCE ?ixCE ?lxCE ?cxCE ?kxCE ?xCE ?saCE ?gaCE ?ggCE ?no0CE ?no1CE ?kcCE ?exCE ?tyCE ?hdCE ?icCE ?scCE ?aCN ?axCN ?ixCN ?lxCN ?cxCN ?kxCN ?xCN ?saCN ?gaCN ?ggCN ?no0CN ?kcCN ?exCN ?tyCN ?hdCN ?icCN ?scCN ?aCL ?axCL ?ixCL ?lxCL ?cxCL ?kxCL ?xCL ?saCL ?gaCL ?ggCL ?no0CL ?kcCL ?exCL ?tyCL ?hdCL ?icCL ?scCL ?aCT ?pgCT ?hdCT ?poCT ?saCT ?mkCT ?kcCT ?n0CT ?n1CT ?haCT ?hn0 ?htk0 ?hmCT ?icCT ?tyCT ?suCT ?nfCT ?aCC ?pgCC ?hdCC ?poCC ?saCC ?mkCC ?kcCC ?n0CC ?n1CC ?n2CC ?n3CC ?n4CC ?haCC ?hmCC ?icCC ?tyCC ?suCC ?nfCC ?z_all ?aW ?lW ?cW ?kW ?aLB ?lLB ?cLB ?kLB ?aQ ?lQ ?cQ ?kQ ?aCK ?lCK ?cCK ?kCK ?atI ?itI ?ltI ?ctI ?ktI ?atH ?itH ?ltH ?ctH ?ktH ?atE ?itE ?ltE ?ctE ?ktE ?aCR ?lCR ?cCR ?kCR ?aCC2 ?lCC2 ?cCC2 ?kCC2 ?aTO ?lTO ?cTO ?kTO ?acI ?icI ?lcI ?lTcI ?ccI ?kcI ?acL ?icL ?lcL ?ccL ?kcL ?acC ?icC ?lcC ?ccC ?kcC ?z_iter ?acT ?icT ?lcT ?ccT ?kcT ?acE ?icE ?lcE ?ccE ?kcE ?acP ?icP ?lcP ?ccP ?kcP ?acO ?icO ?lcO ?ccO ?kcO ?acR ?icR ?lcR ?ccR ?kcR ?aX ?lX ?cX ?kX ?aH ?lH ?cH ?kH ?aD ?lD ?cD ?kD ?aK ?lK ?cK ?kK ?z_max ?aB ?lB ?cB ?kB ?aA ?lA ?cA ?kA ?aT ?lT ?cT ?kT ?aP ?lP ?cP ?kP ?z_repr ?nsCLCN ?lg0 ?lg1 ?aY ?lY ?cY ?kY ?aO ?lO ?cO ?kO ?aN ?lN ?cN ?kN ?aR ?lR ?cR ?kR ?aS ?lS ?cS ?kS ?aV ?lV ?cV ?kV
    (case z_len => k_is)
    (case z_isinstance => k_is)
    (case z_int => k_is)
    (case z_bool => k_is)
    (case z_list => k_is)
    (case z_tuple => k_is)
    (case z_range => k_is)
    (case z_abs => k_is)
    (case z_enumerate => k_is)
    (case gM => k_is)
    (case gL => k_is)
    (case gG => k_is)
    (case aCB => k_is)
    (case axCB => k_is)
    (case ixCB => k_is)
    (case lxCB => k_is)
    (case cxCB => k_is)
    (case kxCB => k_is)
    (case xCB => k_is)
    (case saCB => k_is)
    (case gaCB => k_is)
    (case ggCB => k_is)
    (case no0CB => k_is)
    (case kcCB => k_is)
    (case exCB => k_is)
    (case tyCB => k_is)
    (case hdCB => k_is)
    (case icCB => k_is)
    (case scCB => first | rfl | k_is)
    (case aCE => k_is)
    (case axCE => k_is)
    (case ixCE => k_is)
    (case lxCE => k_is)
    (case cxCE => k_is)
    (case kxCE => k_is)
    (case xCE => k_is)
    (case saCE => k_is)
    (case gaCE => k_is)
    (case ggCE => k_is)
    (case no0CE => k_is)
    (case no1CE => k_is)
    (case kcCE => k_is)
    (case exCE => k_is)
    (case tyCE => k_is)
    (case hdCE => k_is)
    (case icCE => k_is)
    (case scCE => first | rfl | k_is)
    (case aCN => k_is)
    (case axCN => k_is)
    (case ixCN => k_is)
    (case lxCN => k_is)
    (case cxCN => k_is)
    (case kxCN => k_is)
    (case xCN => k_is)
    (case saCN => k_is)
    (case gaCN => k_is)
    (case ggCN => k_is)
    (case no0CN => k_is)
    (case kcCN => k_is)
    (case exCN => k_is)
    (case tyCN => k_is)
    (case hdCN => k_is)
    (case icCN => k_is)
    (case scCN => first | rfl | k_is)
    (case aCL => k_is)
    (case axCL => k_is)
    (case ixCL => k_is)
    (case lxCL => k_is)
    (case cxCL => k_is)
    (case kxCL => k_is)
    (case xCL => k_is)
    (case saCL => k_is)
    (case gaCL => k_is)
    (case ggCL => k_is)
    (case no0CL => k_is)
    (case kcCL => k_is)
    (case exCL => k_is)
    (case tyCL => k_is)
    (case hdCL => k_is)
    (case icCL => k_is)
    (case scCL => first | rfl | k_is)
    (case aCT => k_is)
    (case pgCT => k_is)
    (case hdCT => k_is)
    (case poCT => k_is)
    (case saCT => k_is)
    (case mkCT => k_is)
    (case kcCT => k_is)
    (case n0CT => k_is)
    (case n1CT => k_is)
    (case haCT => k_is)
    (case hn0 => k_is)
    (case htk0 => k_is)
    (case hmCT => k_is)
    (case icCT => k_is)
    (case tyCT => k_is)
    (case suCT => k_is)
    (case nfCT => k_is)
    (case aCC => k_is)
    (case pgCC => k_is)
    (case hdCC => k_is)
    (case poCC => k_is)
    (case saCC => k_is)
    (case mkCC => k_is)
    (case kcCC => k_is)
    (case n0CC => k_is)
    (case n1CC => k_is)
    (case n2CC => k_is)
    (case n3CC => k_is)
    (case n4CC => k_is)
    (case haCC => k_is)
    (case hmCC => k_is)
    (case icCC => k_is)
    (case tyCC => k_is)
    (case suCC => k_is)
    (case nfCC => k_is)
    (case z_all => k_is)
    (case aW => k_is)
    (case lW => k_is)
    (case cW => k_is)
    (case kW => k_is)
    (case aLB => k_is)
    (case lLB => k_is)
    (case cLB => k_is)
    (case kLB => k_is)
    (case aQ => k_is)
    (case lQ => k_is)
    (case cQ => k_is)
    (case kQ => k_is)
    (case aCK => k_is)
    (case lCK => k_is)
    (case cCK => k_is)
    (case kCK => k_is)
    (case atI => k_is)
    (case itI => k_is)
    (case ltI => k_is)
    (case ctI => k_is)
    (case ktI => k_is)
    (case atH => k_is)
    (case itH => k_is)
    (case ltH => k_is)
    (case ctH => k_is)
    (case ktH => k_is)
    (case atE => k_is)
    (case itE => k_is)
    (case ltE => k_is)
    (case ctE => k_is)
    (case ktE => k_is)
    (case aCR => k_is)
    (case lCR => k_is)
    (case cCR => k_is)
    (case kCR => k_is)
    (case aCC2 => k_is)
    (case lCC2 => k_is)
    (case cCC2 => k_is)
    (case kCC2 => k_is)
    (case aTO => k_is)
    (case lTO => k_is)
    (case cTO => k_is)
    (case kTO => k_is)
    (case acI => k_is)
    (case icI => k_is)
    (case lcI => k_is)
    (case lTcI => k_is)
    (case ccI => k_is)
    (case kcI => k_is)
    (case acL => k_is)
    (case icL => k_is)
    (case lcL => k_is)
    (case ccL => k_is)
    (case kcL => k_is)
    (case acC => k_is)
    (case icC => k_is)
    (case lcC => k_is)
    (case ccC => k_is)
    (case kcC => k_is)
    (case z_iter => k_is)
    (case acT => k_is)
    (case icT => k_is)
    (case lcT => k_is)
    (case ccT => k_is)
    (case kcT => k_is)
    (case acE => k_is)
    (case icE => k_is)
    (case lcE => k_is)
    (case ccE => k_is)
    (case kcE => k_is)
    (case acP => k_is)
    (case icP => k_is)
    (case lcP => k_is)
    (case ccP => k_is)
    (case kcP => k_is)
    (case acO => k_is)
    (case icO => k_is)
    (case lcO => k_is)
    (case ccO => k_is)
    (case kcO => k_is)
    (case acR => k_is)
    (case icR => k_is)
    (case lcR => k_is)
    (case ccR => k_is)
    (case kcR => k_is)
    (case aX => k_is)
    (case lX => k_is)
    (case cX => k_is)
    (case kX => k_is)
    (case aH => k_is)
    (case lH => k_is)
    (case cH => k_is)
    (case kH => k_is)
    (case aD => k_is)
    (case lD => k_is)
    (case cD => k_is)
    (case kD => k_is)
    (case aK => k_is)
    (case lK => k_is)
    (case cK => k_is)
    (case kK => k_is)
    (case z_max => k_is)
    (case aB => k_is)
    (case lB => k_is)
    (case cB => k_is)
    (case kB => k_is)
    (case aA => k_is)
    (case lA => k_is)
    (case cA => k_is)
    (case kA => k_is)
    (case aT => k_is)
    (case lT => k_is)
    (case cT => k_is)
    (case kT => k_is)
    (case aP => k_is)
    (case lP => k_is)
    (case cP => k_is)
    (case kP => k_is)
    (case z_repr => k_is)
    (case nsCLCN => k_is)
    (case lg0 => k_is)
    (case lg1 => k_is)
    (case aY => k_is)
    (case lY => k_is)
    (case cY => k_is)
    (case kY => k_is)
    (case aO => k_is)
    (case lO => k_is)
    (case cO => k_is)
    (case kO => k_is)
    (case aN => k_is)
    (case lN => k_is)
    (case cN => k_is)
    (case kN => k_is)
    (case aR => k_is)
    (case lR => k_is)
    (case cR => k_is)
    (case kR => k_is)
    (case aS => k_is)
    (case lS => k_is)
    (case cS => k_is)
    (case kS => k_is)
    (case aV => k_is)
    (case lV => k_is)
    (case cV => k_is)
    (case kV => k_is)

