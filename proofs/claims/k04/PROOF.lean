import PyProof.Rows.All
import Wide.All
import OpenK.AllK
import Wide.FinOn
import HandS.ForMost
import HandS.ForExc
import HandS.Wide
import HandS.IsInst
import HandS.ExcInit
import HandS.ExcField
import HandS.Conv
import HandS.TupLe
import HandS.TryOnly
import HandS.ExcIs
import HandS.Codes
import KE.GoesMore
import HandS.Defaults
import HandS.DictComp
import OpenK.KMeth
import OpenK.KOps
import HandS.Dict
import HandS.TupAny
import HandS.Walk
import HandS.Strs
import HandS.SetBool
import HandS.WordsExc
import KE.GoesSet
import KE.GoesRaise
import KE.KFmtOwn
import PyProof.InstEq
import PySem.Challenge.RW_joinedguests_k04_whole_parts_and_newcome
set_option Elab.async false
set_option linter.all false
set_option maxRecDepth 100000
set_option maxHeartbeats 2000000
namespace J
open PySem PySem.Spec PyProof.Rows L2
def top (i : Nat) : Stmt := PySem.Challenge.pw_joinedguests_k04_whole_parts_and_newcome.main.body.getD i (.Pass ⟨0, 0, 0, 0⟩)
/-! ### a def that may be called -/
structure Cal (P : Program) (w : World) (K : PySem.W.Frag) (mg : Str → Option Value) (base : Heap) (CX : CXT) (k : Nat) (x : Str) (f : Addr) (fd : FuncData) (ps : List Str) (sp : Sp) : Prop where
  F : FnOk P w K mg base CX k f fd ps sp
  m : mg x = some (.ref f)
  kp : PySem.W.keepIn K (.ref f) = true
  b : Binds K fd ps []
section
variable {X : Cx} {CX : CXT} {k j : Nat} {x : Str} {f : Addr} {fd : FuncData} {ps : List Str} {sp : Sp} {E : XK} {p pos : Pos} {e : Expr} {es : List Expr} {t : TA}
theorem pcal (c : Cal X.prog X.w X.K X.mg X.base CX k x f fd ps sp) (hr : Room j X.A) (hx : Passes CX X E) (ha : PA X (e :: es) t) (hk : k ≤ j := by decide) (hg : Gl X x := by rfl)
    (hdb : (x == ("__debug__" : Str)) = false := by decide) (he : starEach (e :: es) X.env = (false, eval e X.env) :: starEach es X.env := by rfl) (hpl : (backTo pos (starEach es X.env)).any (·.1) = false := by rfl) :
    PE X (.Call (.Name x p) (e :: es) [] pos) (tCall sp [] E t) := pe_call c.F (hr.mono hk) hg c.m c.kp c.b .nil hx ha hdb he hpl
end
/-! ### loops over enumerate -/
theorem for_enum {K : PySem.W.Frag} {a : Addr} {xs : List V} {g : TG} {tb : TS} {D : Ends} {σ : L2.St} {H : Hp} (Pv : Nat → L2.St → Hp → Prop) (h0 : Pv 0 σ H) (hl : ∀ i σ H, i ≤ xs.length → Pv i σ H → SqL K H a xs)
    (hs : ∀ i x σ H T, xs[i]? = some x → Pv i σ H → H T = none → g (.ref T) σ (upd H T (.tup [.int (i : Nat), x])) fun σ2 H2 => tb { D with nx := Pv (i + 1), ct := Pv (i + 1), bk := D.nx } σ2 H2) (hd : ∀ σ H, Pv xs.length σ H → D.nx σ H) :
    ∃ W : Nat → Nat → L2.St → Hp → Prop, (∃ m, W 0 m σ H) ∧ ∀ i m σ H, W i m σ H →
      ((Ite K a).stop i H ∧ D.nx σ H) ∨ ((Ite K a).go i H ∧ ∃ N : L2.St → Hp → Prop, (∀ σ' H', N σ' H' → ∃ m', m' < m ∧ W (i + 1) m' σ' H') ∧ ∀ x H', (Ite K a).yld i H x H' → g x σ H' fun σ2 H2 => tb { D with nx := N, ct := N, bk := D.nx } σ2 H2) := by
  refine ⟨fun i m s h => m + i = xs.length ∧ Pv i s h, ⟨xs.length, rfl, h0⟩, ?_⟩
  rintro i m σ H ⟨em, p⟩
  have hi : i ≤ xs.length := by omega
  have q := hl i σ H hi p
  rcases Nat.lt_or_ge i xs.length with hlt | hge
  · refine .inr ⟨⟨xs, xs[i], q, by simp [hlt]⟩, Pv (i + 1), fun σ' H' p' => ⟨m - 1, by omega, by omega, p'⟩, ?_⟩
    rintro x H' ⟨T, y, rfl, hT, rfl, hy⟩
    exact hs i y σ H T (hy xs q) p hT
  · have e : i = xs.length := by omega
    subst e
    exact .inl ⟨⟨xs, q, Nat.le_refl _⟩, hd σ H p⟩

/-! ### mix -/
abbrev s_Lmix : Stmt := top 22
theorem sc_Lmix : FnScope ["_law_number", "_law_turn", "_law_once", "_law_twice"] ["_law_number", "_law_turn"] (defScope s_Lmix) := ⟨rfl, rfl, rfl, by decide +kernel, rfl, by decide +kernel, by decide +kernel⟩
def spMix : Sp := fun vs H Q _ => ∃ n t : Int, vs = [.int n, .int t] ∧ ∀ r : Int, 0 ≤ r → Q (.int r) H
section
variable {P : Program} {w : World} {K : PySem.W.Frag} {mg : Str → Option Value} {base : Heap}
theorem ok_Lmix {f : Addr} {fd : FuncData} (F : Fun K "_law_mix" "_law_mix" s_Lmix f fd) (ni : mg "int" = none) : FnOk P w K mg base CX0 1 f fd ["_law_number", "_law_turn"] spMix := by
  refine F.ok sc_Lmix (fun vs H Q E h => ?_) (fun cdv A outer s H vs Q E hr h => ?_)
  · obtain ⟨n, t, rfl, _⟩ := h
    rfl
  · obtain ⟨n, t, rfl, k⟩ := h
    refine ⟨_, (pss_cons 
  (ps_set (i := 2) sc_Lmix.nd rfl (Or.inl rfl) (pe_op op_mod (pe_callTy call_int1 (by rfl) ni (by decide +kernel) (pa_cons (pe_op op_add (pe_op op_add (pe_op op_mul (pv 0) pe_int) (pe_op op_mul (pv 1) pe_int)) pe_int) pa_nil)) pe_int)) (pss_cons 
  (ps_set (i := 3) sc_Lmix.nd rfl (Or.inl rfl) (pe_op op_mod (pe_callTy call_int1 (by rfl) ni (by decide +kernel) (pa_cons (pe_op op_add (pe_op op_add (pe_op op_mul (pv 2) (pv 2)) (pe_op op_mul (pe_op op_fdiv (pv 2) pe_int) pe_int)) (pe_op op_mul (pv 1) pe_int)) pa_nil)) pe_int)) (pss_one 
  (ps_ret (pe_op op_fdiv (pe_op op_mod (pe_callTy call_int1 (by rfl) ni (by decide +kernel) (pa_cons (pe_op op_add (pe_op op_fdiv (pe_op op_mul (pv 3) (pv 3)) pe_int) (pv 2)) pa_nil)) pe_int) pe_int))))), ?_⟩
    refine ⟨_, rfl, _, _, rfl, rfl, .inr (by decide), _, rfl, _, _, rfl, rfl, .inr (by decide), _, _, rfl, rfl, _, _, rfl, rfl, .inl ⟨_, rfl, ?_⟩⟩
    refine ⟨_, _, rfl, rfl, (by show (0 : Int) < 2147483647; decide), ?_⟩
    have b1 := Int.emod_nonneg (n * 48271 + t * 16807 + 11) (b := 2147483647) (by decide)
    have b2 := Int.emod_lt_of_pos (n * 48271 + t * 16807 + 11) (b := 2147483647) (by decide)
    generalize (n * 48271 + t * 16807 + 11) % 2147483647 = o at b1 b2 ⊢
    refine ⟨_, rfl, _, rfl, _, _, rfl, rfl, .inl ⟨by omega, by omega⟩, ?_⟩
    refine ⟨_, rfl, _, _, rfl, rfl, ⟨by decide, by decide⟩, _, _, rfl, rfl, .inr (by decide), _, _, rfl, rfl, _, rfl, _, _, rfl, rfl, .inr (by decide), _, _, rfl, rfl, .inl ⟨_, rfl, ?_⟩⟩
    refine ⟨_, _, rfl, rfl, (by show (0 : Int) < 2147483399; decide), ?_⟩
    have b3 := Int.emod_nonneg (o * o + o / 127 * 40692 + t * 69621) (b := 2147483399) (by decide)
    have b4 := Int.emod_lt_of_pos (o * o + o / 127 * 40692 + t * 69621) (b := 2147483399) (by decide)
    generalize (o * o + o / 127 * 40692 + t * 69621) % 2147483399 = u at b3 b4 ⊢
    refine ⟨_, rfl, _, rfl, _, _, rfl, rfl, .inl ⟨by omega, by omega⟩, _, _, rfl, rfl, ⟨by decide, by decide⟩, _, rfl, _, _, rfl, rfl, .inl ⟨_, rfl, ?_⟩⟩
    refine ⟨_, _, rfl, rfl, (by show (0 : Int) < 2147483563; decide), _, _, rfl, rfl, ⟨by decide, by decide⟩, k _ ?_⟩
    have b5 := Int.emod_nonneg (u * u / 1009 + o) (b := 2147483563) (by decide)
    omega
end
end J

set_option Elab.async false
set_option linter.all false
set_option maxRecDepth 100000
set_option maxHeartbeats 2000000
namespace J
open PySem PySem.Spec PyProof.Rows L2
/-! ### the hand that is drawn from -/
/-- at h the hand stands: its cells at q -/
def Hand (H : Hp) (h q : Addr) : Prop := ∃ (cs : List Int) (i r t : Int), H h = some (.lst [.ref q, .int i, .int r, .int t]) ∧ H q = some (.lst (cs.map V.int)) ∧ q ≠ h ∧ 0 ≤ i ∧ 0 ≤ r ∧ 0 ≤ t ∧ t < 2147483629 ∧ (∀ c ∈ cs, 0 ≤ c) ∧ cs.length ≤ 63
/-- all that was tracked stands as it stood, but for what is at h -/
def But (h : Addr) (H H' : Hp) : Prop := ∀ b o, b ≠ h → H b = some o → H' b = some o
theorem But.refl (h : Addr) (H : Hp) : But h H H := fun _ _ _ e => e
theorem But.trans {h : Addr} {H H1 H2 : Hp} (a : But h H H1) (b : But h H1 H2) : But h H H2 := fun c o n e => b c o n (a c o n e)
theorem But.put {h : Addr} {H : Hp} {o : HO} : But h H (upd H h o) := fun c u n e => by rw [upd_ne n]; exact e
theorem But.new {h a : Addr} {H : Hp} {o : HO} (n : H a = none) : But h H (upd H a o) := fun c u _ e => by rw [upd_ne (ne_of_none e n)]; exact e
theorem But.same {h : Addr} {H H1 : Hp} (s : Same H H1) : But h H H1 := fun c o _ e => s c o e
theorem Hand.keep {H H' : Hp} {h q : Addr} (x : Hand H h q) (s : Same H H') : Hand H' h q := by
  obtain ⟨cs, i, r, t, e1, e2, z⟩ := x
  exact ⟨cs, i, r, t, s _ _ e1, s _ _ e2, z⟩
theorem Hand.put {H : Hp} {h q a : Addr} {o : HO} (x : Hand H h q) (n1 : h ≠ a) (n2 : q ≠ a) : Hand (upd H a o) h q := by
  obtain ⟨cs, i, r, t, e1, e2, z⟩ := x
  exact ⟨cs, i, r, t, by rw [upd_ne n1]; exact e1, by rw [upd_ne n2]; exact e2, z⟩
theorem Hand.new {H : Hp} {h q a : Addr} {o : HO} (x : Hand H h q) (n : H a = none) : Hand (upd H a o) h q :=
  x.keep fun c u e => by rw [upd_ne (ne_of_none e n)]; exact e
theorem yesT {A B : Hp → Prop} {σ : L2.St} {H : Hp} (h : A H) : tYes σ H (fun b H3 => if b = true then A H3 else B H3) := by
  show if true = true then A H else B H
  rw [if_pos rfl]
  exact h
abbrev s_Lhand : Stmt := top 23
theorem sc_Lhand : FnScope ["_law_script", "_law_total", "_law_k", "_law_cell"] ["_law_script"] (defScope s_Lhand) := ⟨rfl, rfl, rfl, by decide +kernel, rfl, by decide +kernel, by decide +kernel⟩
def spHand (K : PySem.W.Frag) : Sp := fun vs H Q _ => ∃ (a : Addr) (ns : List Int), vs = [.ref a] ∧ SqL K H a (ns.map V.int) ∧ ns.length ≤ 63 ∧ ∀ (H' : Hp) (h q : Addr), Same H H' → H h = none → H q = none → Hand H' h q → Q (.ref h) H'
section
variable {P : Program} {w : World} {K : PySem.W.Frag} {mg : Str → Option Value} {base : Heap}
theorem ok_Lhand {f : Addr} {fd : FuncData} (F : Fun K "_law_hand" "_law_hand" s_Lhand f fd) (ni : mg "int" = none) (na : mg "abs" = none) (ne : mg "enumerate" = none) : FnOk P w K mg base CX0 1 f fd ["_law_script"] (spHand K) := by
  refine F.ok sc_Lhand (fun vs H Q E h => ?_) (fun cdv A outer s H vs Q E hr h => ?_)
  · obtain ⟨a, ns, rfl, _⟩ := h
    rfl
  · obtain ⟨a, ns, rfl, hS, hn, k⟩ := h
    refine ⟨_, (pss_cons 
  (ps_set (i := 1) sc_Lhand.nd rfl (Or.inl rfl) pe_int) (pss_cons 
  (ps_for PassesOwn.never rfl (pi_enum (by rfl) ne (pa_cons (pv 0) pa_nil)) (pg_tup (by rfl) (pgs_cons (pg_name (i := 2) sc_Lhand.nd rfl (Or.inl rfl)) (pgs_cons (pg_name (i := 3) sc_Lhand.nd rfl (Or.inl rfl)) pgs_nil))) (pss_one 
    (ps_set (i := 1) sc_Lhand.nd rfl (Or.inl rfl) (pe_op op_mod (pe_callTy call_int1 (by rfl) ni (by decide +kernel) (pa_cons (pe_op op_add (pe_op op_mul (pv 1) pe_int) (pe_op op_mul (pe_callTy call_int1 (by rfl) ni (by decide +kernel) (pa_cons (pv 3) pa_nil)) (pe_op op_add (pv 2) pe_int))) pa_nil)) pe_int)))) (pss_one 
  (ps_ret (pe_lst (pa_cons (pe_lc (own := [("_law_cell", 3)]) (g := gName 3) (by rfl) sc_Lhand.nd (pi_list (pv 0)) (blkOk_by (own := [("_law_cell", 3)]) (N := ["_law_script", "_law_total", "_law_k", "_law_cell"]) (sc := defScope s_Lhand) (by decide +kernel)) (fun _ _ _ _ _ => pg_name (i := 3) sc_Lhand.nd rfl (Or.inl rfl)) (fun _ _ _ _ _ => pts_nil) (fun _ _ _ _ _ => (pe_callB call_abs (by rfl) na (by decide +kernel) (pa_cons (pe_callTy call_int1 (by rfl) ni (by decide +kernel) (pa_cons (pv 3) pa_nil)) pa_nil)))) (pa_cons pe_int (pa_cons pe_int (pa_cons (pv 1) pa_nil))))))))), ?_⟩
    refine ⟨_, rfl, a, _, rfl, hS, for_enum (K := K) (a := a) (xs := ns.map V.int) (fun i σ H' => ∃ (t : Int) (v2 v3 : Option V), σ = [some (.ref a), some (.int t), v2, v3] ∧ Same H H' ∧ 0 ≤ t ∧ t < 2147483629)
      ⟨0, none, none, rfl, Same.refl H, by decide, by decide⟩ (fun i σ H' _ ⟨_, _, _, _, S, _⟩ => S.seq hS) ?_ ?_⟩
    · rintro i x σ H' T hx ⟨t, v2, v3, rfl, S, t0, t1⟩ hT
      obtain ⟨c, rfl⟩ : ∃ c, x = V.int c := by
        rw [List.getElem?_map] at hx
        cases e : ns[i]? with
        | none => rw [e] at hx; cases hx
        | some c => rw [e] at hx; exact ⟨c, (Option.some.inj hx).symm⟩
      have hi : i < 63 := by
        have q := (List.getElem?_eq_some_iff.mp hx).1
        rw [List.length_map] at q
        omega
      refine ⟨T, _, rfl, SqT.of upd_same, rfl, _, _, rfl, _, _, rfl, rfl, ?_⟩
      refine ⟨_, rfl, _, _, rfl, rfl, .inr (by decide), _, rfl, .inl ⟨_, rfl, _, rfl, _, _, rfl, rfl, _, _, rfl, rfl, .inr ⟨by omega, by omega⟩, _, _, rfl, rfl, .inl ⟨_, rfl, _, _, rfl, rfl, (by show (0 : Int) < 2147483629; decide), ?_⟩⟩⟩
      refine ⟨_, _, _, rfl, fun b o e => ?_, Int.emod_nonneg _ (by decide), Int.emod_lt_of_pos _ (by decide)⟩
      rw [upd_ne (ne_of_none (S _ _ e) hT)]
      exact S _ _ e
    · rintro σ H' ⟨t, v2, v3, rfl, S, t0, t1⟩
      refine ⟨_, rfl, a, rfl, ⟨_, S.seq hS⟩, fun D hD => ?_⟩
      refine lc_list (K := K) (a := a) (xs := ns.map V.int) (fun i H1 => Same H H1 ∧ H D = none ∧ H1 D = some (.lst ((ns.take i).map fun c => V.int (if c < 0 then -c else c)))) ⟨fun b o e => ?_, S.free hD, upd_same⟩ (fun i H1 _ ⟨S1, _⟩ => S1.seq hS) ?_ ?_
      · rw [upd_ne (ne_of_none (S _ _ e) hD)]
        exact S _ _ e
      · rintro i x H1 hx ⟨S1, D0, e1⟩
        obtain ⟨c, hc, rfl⟩ : ∃ c, ns[i]? = some c ∧ x = V.int c := by
          rw [List.getElem?_map] at hx
          cases e : ns[i]? with
          | none => rw [e] at hx; cases hx
          | some c => rw [e] at hx; exact ⟨c, rfl, (Option.some.inj hx).symm⟩
        refine ⟨rfl, yesT ?_⟩
        refine ⟨_, rfl, .inl ⟨_, rfl, _, rfl, _, e1, ?_, fun b o e => ?_, D0, ?_⟩⟩
        · rw [List.length_map, List.length_take]
          exact small1000 (by omega)
        · rw [upd_ne (ne_of_none e D0)]
          exact S1 _ _ e
        · rw [upd_same, List.take_add_one, hc, List.map_append]
          rfl
      · rintro H1 ⟨S1, D0, e1⟩
        rw [List.length_map, List.take_length] at e1
        refine ⟨_, rfl, (by show 4 ≤ sizeLine; decide), fun p hp => k _ p D (fun b o e => ?_) (S1.free hp) D0 ?_⟩
        · rw [upd_ne (ne_of_none (S1 _ _ e) hp)]
          exact S1 _ _ e
        · refine ⟨ns.map fun c => if c < 0 then -c else c, 0, 0, t, upd_same, ?_, ne_of_none e1 hp, by decide, by decide, t0, t1, ?_, by rw [List.length_map]; exact hn⟩
          · rw [upd_ne (ne_of_none e1 hp), e1, List.map_map]
            rfl
          · intro c hc
            obtain ⟨z, _, rfl⟩ := List.mem_map.mp hc
            split <;> omega
end
end J

set_option Elab.async false
set_option linter.all false
set_option maxRecDepth 100000
set_option maxHeartbeats 2000000
namespace J
open PySem PySem.Spec PyProof.Rows L2
theorem ifD {c A B : Prop} [Decidable c] (h1 : c → A) (h2 : ¬ c → B) : if decide c = true then A else B := by
  by_cases h : c
  · rw [if_pos (decide_eq_true h)]
    exact h1 h
  · rw [if_neg (by simp [h])]
    exact h2 h
theorem v_int {a b : Int} (h : a = b) : V.int a = V.int b := by rw [h]
abbrev s_Ldraw : Stmt := top 24
theorem sc_Ldraw : FnScope ["_law_hand_here", "_law_many", "_law_cell", "_law_rest"] ["_law_hand_here", "_law_many"] (defScope s_Ldraw) := ⟨rfl, rfl, rfl, by decide +kernel, rfl, by decide +kernel, by decide +kernel⟩
def spDraw : Sp := fun vs H Q _ => ∃ (h q : Addr) (m : Int), vs = [.ref h, .int m] ∧ 0 < m ∧ m < 2 ^ 62 ∧ Hand H h q ∧ ∀ (v : Int) (H' : Hp), 0 ≤ v → v < m → But h H H' → Hand H' h q → Q (.int v) H'
theorem hand_put {H : Hp} {h q : Addr} {cs : List Int} {i r t : Int} (e2 : H q = some (.lst (cs.map V.int))) (nq : q ≠ h) (i0 : 0 ≤ i) (r0 : 0 ≤ r) (t0 : 0 ≤ t) (t1 : t < 2147483629) (hc : ∀ c ∈ cs, 0 ≤ c) (hl : cs.length ≤ 63) :
    Hand (upd H h (.lst [.ref q, .int i, .int r, .int t])) h q := ⟨cs, i, r, t, upd_same, by rw [upd_ne nq]; exact e2, nq, i0, r0, t0, t1, hc, hl⟩
theorem fmod_in {a m : Int} (h : 0 < m) : 0 ≤ a.fmod m ∧ a.fmod m < m := by
  rw [Int.fmod_eq_emod_of_nonneg a (by omega)]
  exact ⟨Int.emod_nonneg _ (by omega), Int.emod_lt_of_pos _ h⟩
section
variable {P : Program} {w : World} {K : PySem.W.Frag} {mg : Str → Option Value} {base : Heap}
theorem ok_Ldraw {f fM : Addr} {fd fdM : FuncData} (F : Fun K "_law_draw" "_law_draw" s_Ldraw f fd) (ni : mg "int" = none) (nl : mg "len" = none) (GM : Cal P w K mg base CX0 1 "_law_mix" fM fdM ["_law_number", "_law_turn"] spMix) : FnOk P w K mg base CX0 2 f fd ["_law_hand_here", "_law_many"] spDraw := by
  refine F.ok sc_Ldraw (fun vs H Q E h => ?_) (fun cdv A outer s H vs Q E hr h => ?_)
  · obtain ⟨n, q, t, rfl, _⟩ := h
    rfl
  · obtain ⟨h, q, m, rfl, m0, m1, ⟨cs, i, r, t, e1, e2, nq, i0, r0, t0, t1, hc, hl⟩, k⟩ := h
    refine ⟨_, (C8.pss_cut 
  (ps_if (PW.pt (pw_and (pt_cmpR op_eq (pe_ix ix_list (pv 0) pe_int (fun _ _ => rfl)) pe_int (nomark _)) (pw_and1 (pt_cmpR op_lt (pe_ix ix_list (pv 0) pe_int (fun _ _ => rfl)) (pe_callB call_len_seq (by rfl) nl PySem.boot_len (pa_cons (pe_ix ix_list (pv 0) pe_int (fun _ _ => rfl)) pa_nil)) (nomark _))))) (pss_cons 
    (ps_set (i := 2) sc_Ldraw.nd rfl (Or.inl rfl) (pe_ix ix_list (pe_ix ix_list (pv 0) pe_int (fun _ _ => rfl)) (pe_ix ix_list (pv 0) pe_int (fun _ _ => rfl)) (fun _ _ => rfl))) (pss_cons 
    (ps_asg (pe_op op_add (pe_ix ix_list (pv 0) pe_int (fun _ _ => rfl)) pe_int) (pg_sub (pv 0) pe_int set_list)) (pss_cons 
    (ps_if (pt_cmpR op_lt (pv 2) (pe_op op_pow pe_int pe_int) (nomark _)) (pss_one 
      (ps_ret (pe_op op_modN (pe_callTy call_int1 (by rfl) ni (by decide +kernel) (pa_cons (pcal GM hr pass0 (pa_cons (pe_op op_mod (pe_callTy call_int1 (by rfl) ni (by decide +kernel) (pa_cons (pv 2) pa_nil)) pe_int) (pa_cons (pe_ix ix_list (pv 0) pe_int (fun _ _ => rfl)) pa_nil))) pa_nil)) (pv 1)))) pss_nil) (pss_one 
    (ps_asg (pv 2) (pg_sub (pv 0) pe_int set_list)))))) pss_nil) (pss_cons 
  (ps_if (pt_cmpR op_gt (pe_ix ix_list (pv 0) pe_int (fun _ _ => rfl)) pe_int (nomark _)) (pss_cons 
    (ps_set (i := 3) sc_Ldraw.nd rfl (Or.inl rfl) (pe_ix ix_list (pv 0) pe_int (fun _ _ => rfl))) (pss_cons 
    (ps_asg (pe_op op_fdivW (pv 3) (pv 1)) (pg_sub (pv 0) pe_int set_list)) (pss_one 
    (ps_ret (pe_op op_modN (pe_callTy call_int1 (by rfl) ni (by decide +kernel) (pa_cons (pv 3) pa_nil)) (pv 1)))))) pss_nil) (pss_cons 
  (ps_asg (pe_op op_mod (pe_callTy call_int1 (by rfl) ni (by decide +kernel) (pa_cons (pe_op op_add (pe_ix ix_list (pv 0) pe_int (fun _ _ => rfl)) pe_int) pa_nil)) pe_int) (pg_sub (pv 0) pe_int set_list)) (pss_one 
  (ps_ret (pe_op op_modN (pe_callTy call_int1 (by rfl) ni (by decide +kernel) (pa_cons (pcal GM hr pass0 (pa_cons (pe_ix ix_list (pv 0) pe_int (fun _ _ => rfl)) (pa_cons (pe_ix ix_list (pv 0) pe_int (fun _ _ => rfl)) pa_nil))) pa_nil)) (pv 1))))))), ?_⟩
    refine ⟨fun σ' H' => ∃ (v2 : Option V) (i r t : Int), σ' = [some (.ref h), some (.int m), v2, none] ∧ But h H H' ∧ H' h = some (.lst [.ref q, .int i, .int r, .int t]) ∧ 0 ≤ i ∧ 0 ≤ r ∧ 0 ≤ t ∧ t < 2147483629, ?_, ?_⟩
    · -- hand[2] == 0
      refine ⟨_, rfl, _, _, _, _, rfl, rfl, SqL.of e1, rfl, rfl, _, rfl, ?_⟩
      refine ifD (fun c1 => ?_) (fun c1 => iteF ⟨none, i, r, t, rfl, But.refl h H, e1, i0, r0, t0, t1⟩)
      refine ⟨_, rfl, _, _, _, _, rfl, rfl, SqL.of e1, rfl, _, rfl, _, _, _, _, rfl, rfl, SqL.of e1, rfl, _, _, rfl, .inl (SqL.of e2), _, _, rfl, rfl, _, rfl, ?_⟩
      refine ifD (fun c2 => ?_) (fun c2 => ⟨none, i, r, t, rfl, But.refl h H, e1, i0, r0, t0, t1⟩)
      rw [List.length_map] at c2
      have hi : i.toNat < cs.length := by omega
      have hic : ((i.toNat : Nat) : Int) = i := Int.toNat_of_nonneg i0
      have hat : (cs.map V.int)[i.toNat]? = some (V.int cs[i.toNat]) := by
        rw [List.getElem?_map, List.getElem?_eq_getElem hi]
        rfl
      have cp : 0 ≤ cs[i.toNat] := hc _ (List.getElem_mem hi)
      generalize cs[i.toNat] = c at hat cp
      refine ⟨_, rfl, _, _, _, _, rfl, rfl, SqL.of e1, rfl, _, rfl, _, _, _, _, rfl, rfl, SqL.of e1, rfl, _, _, _, _, rfl, rfl, SqL.of e2, at_of hic.symm hat, ?_⟩
      refine ⟨_, rfl, _, _, _, _, rfl, rfl, SqL.of e1, rfl, _, _, rfl, rfl, _, rfl, _, _, _, _, rfl, rfl, e1, rfl, ?_⟩
      have e3 : (upd H h (.lst [.ref q, .int (i + 1), .int r, .int t])) h = some (.lst [.ref q, .int (i + 1), .int r, .int t]) := upd_same
      refine ⟨_, rfl, _, _, rfl, rfl, ⟨by decide, by decide, by decide⟩, _, _, rfl, rfl, _, rfl, ?_⟩
      refine ifD (fun c3 => ?_) (fun c3 => ?_)
      · refine ⟨_, rfl, .inl ⟨_, rfl, _, _, rfl, rfl, (by show (0 : Int) < 2147483647; decide), _, rfl, _, _, _, _, rfl, rfl, SqL.of e3, rfl, _, _, rfl, fun z z0 => .inl ⟨_, rfl, _, rfl, _, _, rfl, rfl, (by show m ≠ 0; omega), ?_⟩⟩⟩
        exact k _ _ (fmod_in m0).1 (fmod_in m0).2 But.put (hand_put e2 nq (by omega) r0 t0 t1 hc hl)
      · refine ⟨_, rfl, _, rfl, _, _, _, _, rfl, rfl, e3, rfl, ?_⟩
        exact ⟨_, i + 1, c, t, rfl, But.put.trans But.put, upd_same, by omega, cp, t0, t1⟩
    · rintro σ' H' ⟨v2, i, r, t, rfl, B1, e1, i0, r0, t0, t1⟩
      have e2' := B1 _ _ nq e2
      refine ⟨_, rfl, _, _, _, _, rfl, rfl, SqL.of e1, rfl, _, _, rfl, rfl, _, rfl, ?_⟩
      refine ifD (fun c1 => ?_) (fun c1 => ?_)
      · refine ⟨_, rfl, _, _, _, _, rfl, rfl, SqL.of e1, rfl, _, rfl, _, rfl, _, _, rfl, rfl, wide_div (b := 62) m0 (by omega) (by decide) (by decide), _, rfl, _, _, _, _, rfl, rfl, e1, rfl, ?_⟩
        refine ⟨_, rfl, .inl ⟨_, rfl, _, rfl, _, _, rfl, rfl, (by show m ≠ 0; omega), ?_⟩⟩
        exact k _ _ (fmod_in m0).1 (fmod_in m0).2 (B1.trans But.put) (hand_put e2' nq i0 (Int.ediv_nonneg r0 (by omega)) t0 t1 hc hl)
      · refine ⟨_, rfl, _, _, _, _, rfl, rfl, SqL.of e1, rfl, _, _, rfl, rfl, .inl ⟨_, rfl, _, _, rfl, rfl, (by show (0 : Int) < 2147483629; decide), _, rfl, _, _, _, _, rfl, rfl, e1, rfl, ?_⟩⟩
        have e3 : (upd H' h (.lst [.ref q, .int i, .int r, .int ((t + 1) % 2147483629)])) h = some (.lst [.ref q, .int i, .int r, .int ((t + 1) % 2147483629)]) := upd_same
        refine ⟨_, rfl, _, _, _, _, rfl, rfl, SqL.of e3, rfl, _, rfl, _, _, _, _, rfl, rfl, SqL.of e3, rfl, _, _, rfl, fun z z0 => .inl ⟨_, rfl, _, rfl, _, _, rfl, rfl, (by show m ≠ 0; omega), ?_⟩⟩
        exact k _ _ (fmod_in m0).1 (fmod_in m0).2 (B1.trans But.put) (hand_put e2' nq i0 r0 (Int.emod_nonneg _ (by decide)) (Int.emod_lt_of_pos _ (by decide)) hc hl)
end
end J

set_option Elab.async false
set_option linter.all false
set_option maxRecDepth 100000
set_option maxHeartbeats 2000000
namespace J
open PySem PySem.Spec PyProof.Rows L2
/-! ### things of many kinds -/
/-- the shape of a thing -/
inductive Sh where
  | sc (v : V) | dk | lst (xs : List V) | tup (xs : List V)
def isSc : V → Bool
  | .non => true | .bl _ => true | .int _ => true | .str _ => true | _ => false
def Is (H : Hp) (x : V) : Sh → Prop
  | .sc v => x = v ∧ isSc v = true
  | .dk => ∃ a kvs, x = .ref a ∧ H a = some (.dK kvs)
  | .lst xs => ∃ a, x = .ref a ∧ H a = some (.lst xs)
  | .tup xs => ∃ a, x = .ref a ∧ H a = some (.tup xs)
def Sh.int : Sh → Bool
  | .sc (.int _) => true | _ => false
def Sh.bl : Sh → Bool
  | .sc (.bl _) => true | _ => false
def Sh.isL : Sh → Bool
  | .lst _ => true | _ => false
def Sh.isT : Sh → Bool
  | .tup _ => true | _ => false
theorem Is.keep {H H' : Hp} {x : V} {s : Sh} (h : Is H x s) (S : Same H H') : Is H' x s := by
  cases s with
  | sc v => exact h
  | dk => obtain ⟨a, kvs, e, q⟩ := h; exact ⟨a, kvs, e, S _ _ q⟩
  | lst xs => obtain ⟨a, e, q⟩ := h; exact ⟨a, e, S _ _ q⟩
  | tup xs => obtain ⟨a, e, q⟩ := h; exact ⟨a, e, S _ _ q⟩
theorem kt_NoneType_int : kitB "NoneType" "int" = some false := by decide +kernel
theorem kt_NoneType_bool : kitB "NoneType" "bool" = some false := by decide +kernel
theorem kt_NoneType_list : kitB "NoneType" "list" = some false := by decide +kernel
theorem kt_NoneType_tuple : kitB "NoneType" "tuple" = some false := by decide +kernel
theorem kt_bool_int : kitB "bool" "int" = some true := by decide +kernel
theorem kt_bool_bool : kitB "bool" "bool" = some true := by decide +kernel
theorem kt_bool_list : kitB "bool" "list" = some false := by decide +kernel
theorem kt_bool_tuple : kitB "bool" "tuple" = some false := by decide +kernel
theorem kt_int_int : kitB "int" "int" = some true := by decide +kernel
theorem kt_int_bool : kitB "int" "bool" = some false := by decide +kernel
theorem kt_int_list : kitB "int" "list" = some false := by decide +kernel
theorem kt_int_tuple : kitB "int" "tuple" = some false := by decide +kernel
theorem kt_str_int : kitB "str" "int" = some false := by decide +kernel
theorem kt_str_bool : kitB "str" "bool" = some false := by decide +kernel
theorem kt_str_list : kitB "str" "list" = some false := by decide +kernel
theorem kt_str_tuple : kitB "str" "tuple" = some false := by decide +kernel
theorem kt_dict_int : kitB "dict" "int" = some false := by decide +kernel
theorem kt_dict_bool : kitB "dict" "bool" = some false := by decide +kernel
theorem kt_dict_list : kitB "dict" "list" = some false := by decide +kernel
theorem kt_dict_tuple : kitB "dict" "tuple" = some false := by decide +kernel
theorem kt_list_int : kitB "list" "int" = some false := by decide +kernel
theorem kt_list_bool : kitB "list" "bool" = some false := by decide +kernel
theorem kt_list_list : kitB "list" "list" = some true := by decide +kernel
theorem kt_list_tuple : kitB "list" "tuple" = some false := by decide +kernel
theorem kt_tuple_int : kitB "tuple" "int" = some false := by decide +kernel
theorem kt_tuple_bool : kitB "tuple" "bool" = some false := by decide +kernel
theorem kt_tuple_list : kitB "tuple" "list" = some false := by decide +kernel
theorem kt_tuple_tuple : kitB "tuple" "tuple" = some true := by decide +kernel
theorem Is.ty {K : PySem.W.Frag} {H : Hp} {x : V} {s : Sh} (h : Is H x s) : ∃ t : String, TyX K H x (.type t) ∧ kitB t "int" = some (s.int || s.bl) ∧ kitB t "bool" = some s.bl ∧ kitB t "list" = some s.isL ∧ kitB t "tuple" = some s.isT := by
  cases s with
  | sc v =>
    obtain ⟨rfl, e⟩ := h
    cases x with
    | non => exact ⟨_, .base .non, kt_NoneType_int, kt_NoneType_bool, kt_NoneType_list, kt_NoneType_tuple⟩
    | bl b => exact ⟨_, .base (.bl b), kt_bool_int, kt_bool_bool, kt_bool_list, kt_bool_tuple⟩
    | int b => exact ⟨_, .base (.int b), kt_int_int, kt_int_bool, kt_int_list, kt_int_tuple⟩
    | str b => exact ⟨_, .base (.str b), kt_str_int, kt_str_bool, kt_str_list, kt_str_tuple⟩
    | byt b => cases e
    | flt b => cases e
    | ref b => cases e
    | ty b => cases e
  | dk => obtain ⟨a, kvs, rfl, q⟩ := h; exact ⟨_, .base (.dK q), kt_dict_int, kt_dict_bool, kt_dict_list, kt_dict_tuple⟩
  | lst xs => obtain ⟨a, rfl, q⟩ := h; exact ⟨_, .base (.lst q), kt_list_int, kt_list_bool, kt_list_list, kt_list_tuple⟩
  | tup xs => obtain ⟨a, rfl, q⟩ := h; exact ⟨_, .base (.tup q), kt_tuple_int, kt_tuple_bool, kt_tuple_list, kt_tuple_tuple⟩
/-- isinstance(x, (list, tuple)) -/
theorem kit_seq {K : PySem.W.Frag} {t : String} {a b : Bool} (h1 : kitB t "list" = some a) (h2 : kitB t "tuple" = some b) : PySem.W.kitAny K (.type t) [.type "list", .type "tuple"] = some (a || b) :=
  kitAny_cons (kit_ty h1) (fun e => by subst e; exact kitAny_cons (kit_ty h2) (fun e => by subst e; exact kitAny_nil) (fun e => by subst e; rfl)) (fun e => by subst e; rfl)
def wholeB (x : V) (lo hi : Int) : Bool := match x with
  | .int i => decide (lo ≤ i) && decide (i ≤ hi)
  | _ => false

abbrev s_is_whole : Stmt := top 10
theorem sc_is_whole : FnScope ["thing", "low", "high"] ["thing", "low", "high"] (defScope s_is_whole) := ⟨rfl, rfl, rfl, by decide +kernel, rfl, by decide +kernel, by decide +kernel⟩
def spWhole : Sp := fun vs H Q _ => ∃ (x : V) (s : Sh) (lo hi : Int), vs = [x, .int lo, .int hi] ∧ Is H x s ∧ Q (.bl (wholeB x lo hi)) H
theorem if_tr {A B : Prop} {c : Bool} (e : c = true) (h : A) : if c = true then A else B := by rw [if_pos e]; exact h
theorem if_fa {A B : Prop} {c : Bool} (e : c = false) (h : B) : if c = true then A else B := by rw [if_neg (by simp [e])]; exact h
section
variable {P : Program} {w : World} {K : PySem.W.Frag} {mg : Str → Option Value} {base : Heap}
theorem ok_is_whole {f : Addr} {fd : FuncData} (F : Fun K "is_whole" "is_whole" s_is_whole f fd) (ns : mg "isinstance" = none) (ni : mg "int" = none) (nb : mg "bool" = none) : FnOk P w K mg base CX0 1 f fd ["thing", "low", "high"] spWhole := by
  refine F.ok sc_is_whole (fun vs H Q E h => ?_) (fun cdv A outer s H vs Q E hr h => ?_)
  · obtain ⟨x, s, lo, hi, rfl, _⟩ := h
    rfl
  · obtain ⟨x, sh, lo, hi, rfl, hx, k⟩ := h
    refine ⟨_, (pss_one 
  (ps_ret (pe_and (pe_callB call_isi (by rfl) ns (by decide +kernel) (pa_cons (pv 0) (pa_cons (pe_bltn (by rfl) ni (by decide +kernel) (v := .ty "int") rfl) pa_nil))) (pe_and (pe_not (pe_callB call_isi (by rfl) ns (by decide +kernel) (pa_cons (pv 0) (pa_cons (pe_bltn (by rfl) nb (by decide +kernel) (v := .ty "bool") rfl) pa_nil)))) (pe_one (pe_chain op_le op_le (pv 1) (pv 0) (pv 2))))))), ?_⟩
    obtain ⟨t, ht, k1, k2, _⟩ := hx.ty (K := K)
    refine ⟨_, rfl, _, _, _, _, _, rfl, .ty "int", ht, kit_ty k1, _, rfl, ?_⟩
    cases e1 : sh.int with
    | true =>
      obtain ⟨i, rfl⟩ : ∃ i, sh = .sc (.int i) := by
        cases sh with
        | sc v => cases v <;> first | exact ⟨_, rfl⟩ | cases e1
        | _ => cases e1
      obtain ⟨rfl, _⟩ := hx
      refine if_tr rfl ?_
      refine ⟨_, rfl, _, _, _, _, _, rfl, .ty "bool", ht, kit_ty k2, _, rfl, _, rfl, ?_⟩
      refine if_tr rfl ?_
      refine ⟨_, rfl, _, rfl, _, _, rfl, rfl, _, rfl, ?_⟩
      by_cases c : lo ≤ i
      · refine if_tr (decide_eq_true c) ⟨_, rfl, _, _, rfl, rfl, ?_⟩
        have e : wholeB (.int i) lo hi = decide (i ≤ hi) := by
          show (decide (lo ≤ i) && decide (i ≤ hi)) = _
          rw [decide_eq_true c, Bool.true_and]
        rw [e] at k
        exact k
      · refine if_fa (decide_eq_false c) ?_
        have e : wholeB (.int i) lo hi = false := by
          show (decide (lo ≤ i) && decide (i ≤ hi)) = _
          rw [decide_eq_false c, Bool.false_and]
        rw [e] at k
        exact k
    | false =>
      have e : wholeB x lo hi = false := by
        cases sh with
        | sc v =>
          obtain ⟨rfl, _⟩ := hx
          cases x <;> first | rfl | cases e1
        | dk => obtain ⟨a, _, rfl, _⟩ := hx; rfl
        | lst => obtain ⟨a, rfl, _⟩ := hx; rfl
        | tup => obtain ⟨a, rfl, _⟩ := hx; rfl
      rw [e] at k
      cases e2 : sh.bl with
      | true =>
        refine if_tr rfl ?_
        refine ⟨_, rfl, _, _, _, _, _, rfl, .ty "bool", ht, kit_ty (e2 ▸ k2), _, rfl, _, rfl, ?_⟩
        exact if_fa rfl k
      | false => exact if_fa rfl k
abbrev s_is_label : Stmt := top 11
theorem sc_is_label : FnScope ["thing"] ["thing"] (defScope s_is_label) := ⟨rfl, rfl, rfl, by decide +kernel, rfl, by decide +kernel, by decide +kernel⟩
def spLabel : Sp := fun vs H Q _ => ∃ (x : V) (s : Sh), vs = [x] ∧ Is H x s ∧ Q (.bl (wholeB x 0 1000000000)) H
theorem ok_is_label {f fW : Addr} {fd fdW : FuncData} (F : Fun K "is_label" "is_label" s_is_label f fd) (GW : Cal P w K mg base CX0 1 "is_whole" fW fdW ["thing", "low", "high"] spWhole) (mL : ∃ t, mg "MOST_LABEL" = some (.int 1000000000 t)) : FnOk P w K mg base CX0 2 f fd ["thing"] spLabel := by
  obtain ⟨t, mL⟩ := mL
  refine F.ok sc_is_label (fun vs H Q E h => ?_) (fun cdv A outer s H vs Q E hr h => ?_)
  · obtain ⟨x, s, rfl, _⟩ := h
    rfl
  · obtain ⟨x, sh, rfl, hx, k⟩ := h
    refine ⟨_, (pss_one 
  (ps_ret (pcal GW hr pass0 (pa_cons (pv 0) (pa_cons pe_int (pa_cons (pe_glob (v := .int 1000000000) rfl mL ⟨_, rfl⟩) pa_nil)))))), ?_⟩
    exact ⟨_, rfl, x, sh, 0, 1000000000, rfl, hx, k⟩
abbrev s_is_sequence : Stmt := top 12
theorem sc_is_sequence : FnScope ["thing"] ["thing"] (defScope s_is_sequence) := ⟨rfl, rfl, rfl, by decide +kernel, rfl, by decide +kernel, by decide +kernel⟩
def spSeq : Sp := fun vs H Q _ => ∃ (x : V) (s : Sh), vs = [x] ∧ Is H x s ∧ ∀ H', Same H H' → Q (.bl (s.isL || s.isT)) H'
theorem new_same {H : Hp} {p : Addr} {o : HO} (n : H p = none) : Same H (upd H p o) := fun b u e => by
  rw [upd_ne (ne_of_none e n)]
  exact e
/-- the test isinstance(x, (list, tuple)) -/
theorem isi_seq {K : PySem.W.Frag} {H : Hp} {x : V} {s : Sh} {Q : VK} (hx : Is H x s) (k : ∀ H', Same H H' → Q (.bl (s.isL || s.isT)) H') : 2 ≤ sizeLine ∧ ∀ p, H p = none → rIsiT K [x, .ref p] (upd H p (.tup [.ty "list", .ty "tuple"])) Q := by
  refine ⟨by decide, fun p hp => ?_⟩
  have S : Same H (upd H p (.tup [.ty "list", .ty "tuple"])) := new_same hp
  obtain ⟨t, ht, _, _, k1, k2⟩ := (hx.keep S).ty (K := K)
  exact ⟨_, _, _, _, _, _, rfl, upd_same, .cons (.ty "list") (.cons (.ty "tuple") .nil), ht, kit_seq k1 k2, k _ S⟩
theorem ok_is_sequence {f : Addr} {fd : FuncData} (F : Fun K "is_sequence" "is_sequence" s_is_sequence f fd) (ns : mg "isinstance" = none) (nl : mg "list" = none) (nt : mg "tuple" = none) : FnOk P w K mg base CX0 1 f fd ["thing"] spSeq := by
  refine F.ok sc_is_sequence (fun vs H Q E h => ?_) (fun cdv A outer s H vs Q E hr h => ?_)
  · obtain ⟨x, s, rfl, _⟩ := h
    rfl
  · obtain ⟨x, sh, rfl, hx, k⟩ := h
    refine ⟨_, (pss_one 
  (ps_ret (pe_callB call_isiT (by rfl) ns (by decide +kernel) (pa_cons (pv 0) (pa_cons (pe_tup (pa_cons (pe_bltn (by rfl) nl (by decide +kernel) (v := .ty "list") rfl) (pa_cons (pe_bltn (by rfl) nt (by decide +kernel) (v := .ty "tuple") rfl) pa_nil))) pa_nil))))), ?_⟩
    exact ⟨_, rfl, isi_seq hx k⟩
end
end J

set_option Elab.async false
set_option linter.all false
set_option maxRecDepth 100000
set_option maxHeartbeats 2000000
namespace J
open PySem PySem.Spec PyProof.Rows L2
/-! ### own errors with one field -/
def spXI (C : Addr) (f : Str) : Sp := fun vs H Q _ => ∃ (a : Addr) (v : V), vs = [.ref a, v] ∧ H a = some (exo a C none) ∧ ∀ dx, H dx = none → dx ≠ a → Q .non (upd (upd H dx (exd dx [(f, v)])) a (exo a C (some dx)))
structure Ex (P : Program) (w : World) (K : PySem.W.Frag) (mg : Str → Option Value) (base : Heap) (x fld : Str) (C fI : Addr) (fd : FuncData) (ps : List Str) : Prop where
  o : OexC K C
  i : PySem.W.findIn K (.ref C) "__init__" = some (some (.ref fI))
  t : PySem.W.typeIn K (.ref fI) = some (.type "function")
  F : FnOk P w K mg base CX0 1 fI fd ps (spXI C fld)
  b : Binds K fd ps []
  m : mg x = some (.ref C)
  xf : XfC K C
  no : PySem.W.findIn K (.ref C) fld = some none
  te : PySem.W.exmOne K (.ref C) (.ref C) = some true
/-- how an error is told: new, with its field -/
def Tells (H : Hp) (C : Addr) (f : Str) (v : V) (E : XK) : Prop := ∀ d H', H d = none → Same H H' → H' d = some (.xd [(f, v)]) → E (.ref C) (some d) H'
theorem mkO_of {C : Addr} {f : Str} {v : V} {H : Hp} {Q : XK} (h : Tells H C f v Q) : [v].length ≤ 1000 ∧ ∀ a, H a = none → spXI C f (.ref a :: ([v] ++ [])) (upd H a (exo a C none))
    (fun u H2 => u = .non ∧ ∃ (d : Addr) (fs : List (Str × V)), H2 a = some (exo a C (some d)) ∧ H2 d = some (exd d fs) ∧ H d = none ∧ Q (.ref C) (some d) (upd (del H2 a) d (.xd fs))) (fun _ _ _ => False) := by
  refine ⟨(by show 1 ≤ 1000; decide), fun a ha => ⟨a, v, rfl, upd_same, fun dx hdx ne => ⟨rfl, dx, [(f, v)], upd_same, ?_, ?_, ?_⟩⟩⟩
  · rw [upd_ne ne, upd_same]
  · rw [upd_ne ne] at hdx
    exact hdx
  · rw [upd_ne ne] at hdx
    refine h _ _ hdx (fun b o e => ?_) upd_same
    rw [upd_ne (ne_of_none e hdx), del_ne (ne_of_none e ha), upd_ne (ne_of_none e ha), upd_ne (ne_of_none e hdx), upd_ne (ne_of_none e ha)]
    exact e
abbrev s_BadTies_init : Stmt := inClass (top 3) 0
abbrev s_NoTie_init : Stmt := inClass (top 4) 0
theorem sc_BadTies_init : FnScope ["self", "what"] ["self", "what"] (defScope s_BadTies_init) := ⟨rfl, rfl, rfl, by decide +kernel, rfl, by decide +kernel, by decide +kernel⟩
theorem sc_NoTie_init : FnScope ["self", "tie"] ["self", "tie"] (defScope s_NoTie_init) := ⟨rfl, rfl, rfl, by decide +kernel, rfl, by decide +kernel, by decide +kernel⟩
section
variable {P : Program} {w : World} {K : PySem.W.Frag} {mg : Str → Option Value} {base : Heap}
theorem ok_BadTies_init {f C : Addr} {fd : FuncData} (F : Fun K "__init__" "BadTies.__init__" s_BadTies_init f fd) (o : OexC K C) (no : PySem.W.findIn K (.ref C) "what" = some none) : FnOk P w K mg base CX0 1 f fd ["self", "what"] (spXI C "what") := by
  refine F.ok sc_BadTies_init (fun vs H Q E h => ?_) (fun cdv A outer s H vs Q E hr h => ?_)
  · obtain ⟨x, s, rfl, _⟩ := h
    rfl
  · obtain ⟨a, v, rfl, ha, k⟩ := h
    refine ⟨_, pss_one (ps_ost (pv 0) (pv 1)), ?_⟩
    exact ⟨_, rfl, _, rfl, a, C, rfl, o, no, .inl ⟨ha, k⟩⟩
theorem ok_NoTie_init {f C : Addr} {fd : FuncData} (F : Fun K "__init__" "NoTie.__init__" s_NoTie_init f fd) (o : OexC K C) (no : PySem.W.findIn K (.ref C) "tie" = some none) : FnOk P w K mg base CX0 1 f fd ["self", "tie"] (spXI C "tie") := by
  refine F.ok sc_NoTie_init (fun vs H Q E h => ?_) (fun cdv A outer s H vs Q E hr h => ?_)
  · obtain ⟨x, s, rfl, _⟩ := h
    rfl
  · obtain ⟨a, v, rfl, ha, k⟩ := h
    refine ⟨_, pss_one (ps_ost (pv 0) (pv 1)), ?_⟩
    exact ⟨_, rfl, _, rfl, a, C, rfl, o, no, .inl ⟨ha, k⟩⟩
end
/-! ### Ties -/
theorem bm_ : ¬ (("backs" : Str) = "many") := by decide +kernel
theorem mb_ : ¬ (("many" : Str) = "backs") := by decide +kernel
def tf (t : Addr) (n : Int) : List (Str × V) := putF "many" (.int n) (putF "backs" (.ref t) [])
theorem tf_backs (t : Addr) (n : Int) : (tf t n).lookup ("backs" : Str) = some (.ref t) := by
  unfold tf
  rw [lookup_putF, if_neg bm_, lookup_putF, if_pos rfl]
theorem tf_many (t : Addr) (n : Int) : (tf t n).lookup ("many" : Str) = some (.int n) := by
  unfold tf
  rw [lookup_putF, if_pos rfl]
theorem tf_no (t : Addr) (n : Int) {m : Str} (h1 : ¬ m = "many") (h2 : ¬ m = "backs") : (tf t n).lookup m = none := by
  unfold tf
  rw [lookup_putF, if_neg h1, lookup_putF, if_neg h2]
  all_goals rfl
def TiesAt (C : Addr) (H : Hp) (x : Addr) (ns : List Int) : Prop := ∃ dx t, H x = some (.ins C dx (tf t (ns.length : Nat))) ∧ H t = some (.tup (ns.map V.int))
theorem TiesAt.keep {C : Addr} {H H' : Hp} {x : Addr} {ns : List Int} (h : TiesAt C H x ns) (S : Same H H') : TiesAt C H' x ns := by
  obtain ⟨dx, t, a, b⟩ := h
  exact ⟨dx, t, S _ _ a, S _ _ b⟩
/-- the class Ties in the written part -/
structure TiC (K : PySem.W.Frag) (C : Addr) : Prop where
  cl : Cls K C
  nB : NoAttr K C "backs"
  nM : NoAttr K C "many"
structure Mt (P : Program) (w : World) (K : PySem.W.Frag) (mg : Str → Option Value) (base : Heap) (CX : CXT) (k : Nat) (C : Addr) (m : Str) (f : Addr) (fd : FuncData) (ps : List Str) (sp : Sp) : Prop where
  M : Meth K C m f
  F : FnOk P w K mg base CX k f fd ps sp
  b : Binds K fd ps []
abbrev s_Ties_has : Stmt := inClass (top 13) 2
abbrev s_Ties_back : Stmt := inClass (top 13) 3
theorem sc_Ties_has : FnScope ["self", "thing"] ["self", "thing"] (defScope s_Ties_has) := ⟨rfl, rfl, rfl, by decide +kernel, rfl, by decide +kernel, by decide +kernel⟩
theorem sc_Ties_back : FnScope ["self", "tie"] ["self", "tie"] (defScope s_Ties_back) := ⟨rfl, rfl, rfl, by decide +kernel, rfl, by decide +kernel, by decide +kernel⟩
def tieB (ns : List Int) (x : V) : Bool := wholeB x 0 ((ns.length : Nat) - 1)
def spHas (C : Addr) : Sp := fun vs H Q _ => ∃ (x : Addr) (ns : List Int) (v : V) (s : Sh), vs = [.ref x, v] ∧ TiesAt C H x ns ∧ Is H v s ∧ Q (.bl (tieB ns v)) H
def spBack (C CN : Addr) : Sp := fun vs H Q E => ∃ (x : Addr) (ns : List Int) (v : V) (s : Sh), vs = [.ref x, v] ∧ TiesAt C H x ns ∧ Is H v s ∧ (∀ (i : Nat) (b : Int), v = .int (i : Nat) → ns[i]? = some b → Q (.int b) H) ∧ (tieB ns v = false → Tells H CN "tie" v E)
def spOneWay (C CN : Addr) : Sp := fun vs H Q E => ∃ (x : Addr) (ns : List Int) (v : V) (s : Sh), vs = [.ref x, v] ∧ TiesAt C H x ns ∧ Is H v s ∧ (∀ (i : Nat) (b : Int), v = .int (i : Nat) → ns[i]? = some b → Q (.bl (!decide (b = (i : Nat)))) H) ∧ (tieB ns v = false → Tells H CN "tie" v E)
theorem tieB_true {ns : List Int} {v : V} (h : tieB ns v = true) : ∃ (i : Nat) (b : Int), v = .int (i : Nat) ∧ ns[i]? = some b := by
  cases v with
  | int i =>
    have h' : (decide (0 ≤ i) && decide (i ≤ (ns.length : Nat) - 1)) = true := h
    obtain ⟨h1, h2⟩ := Bool.and_eq_true_iff.mp h'
    have h1 := of_decide_eq_true h1
    have h2 := of_decide_eq_true h2
    have hl : i.toNat < ns.length := by omega
    exact ⟨i.toNat, ns[i.toNat], by rw [Int.toNat_of_nonneg h1], List.getElem?_eq_getElem hl⟩
  | _ => cases h
section
variable {P : Program} {w : World} {K : PySem.W.Frag} {mg : Str → Option Value} {base : Heap}
theorem ok_Ties_has {f C fW : Addr} {fd fdW : FuncData} (F : Fun K "has" "Ties.has" s_Ties_has f fd) (T : TiC K C) (GW : Cal P w K mg base CX0 1 "is_whole" fW fdW ["thing", "low", "high"] spWhole) : FnOk P w K mg base CX0 2 f fd ["self", "thing"] (spHas C) := by
  refine F.ok sc_Ties_has (fun vs H Q E h => ?_) (fun cdv A outer s H vs Q E hr h => ?_)
  · obtain ⟨x, ns, v, s, rfl, _⟩ := h
    rfl
  · obtain ⟨x, ns, v, s, rfl, ⟨dx, t, hx, ht⟩, hv, k⟩ := h
    refine ⟨_, (pss_one 
  (ps_ret (pcal GW hr pass0 (pa_cons (pv 1) (pa_cons pe_int (pa_cons (pe_op op_sub (pe_fld (pv 0) rfl) pe_int) pa_nil)))))), ?_⟩
    exact ⟨_, rfl, _, rfl, x, C, dx, _, _, rfl, hx, T.cl, T.nM, tf_many _ _, _, _, rfl, rfl, v, s, _, _, rfl, hv, k⟩
theorem ok_Ties_back {f C CN fH fI : Addr} {fd fdH fdI : FuncData} (F : Fun K "back" "Ties.back" s_Ties_back f fd) (T : TiC K C) (GH : Mt P w K mg base CX0 2 C "has" fH fdH ["self", "thing"] (spHas C)) (GN : Ex P w K mg base "NoTie" "tie" CN fI fdI ["self", "tie"]) :
    FnOk P w K mg base (L2.CX P w) 3 f fd ["self", "tie"] (spBack C CN) := by
  refine F.okX sc_Ties_back (fun vs H Q E h => ?_) (fun cdv A outer s H vs Q E hr h => ?_)
  · obtain ⟨x, ns, v, s, rfl, _⟩ := h
    rfl
  · obtain ⟨x, ns, v, s, rfl, hT, hv, k1, k2⟩ := h
    obtain ⟨dx, t, hx, ht⟩ := id hT
    refine ⟨_, (pss_cons 
  (ps_if (pt_not (pt_val (pe_meth (pv 0) T.cl GH.M GH.F hr GH.b .nil pass0 (pa_cons (pv 1) pa_nil)))) (pss_one 
    (ps_raise rfl (takes_of rfl rfl rfl rfl) (pmk_oex GN.o GN.i GN.t GN.F hr GN.b .nil pass0 rfl GN.m (pa_cons (pv 1) pa_nil)))) pss_nil) (pss_one 
  (ps_ret (pe_ix ix_tup (pe_fld (pv 0) rfl) (pv 1) (fun _ _ => rfl))))), ?_⟩
    refine ⟨_, rfl, x, dx, _, rfl, hx, tf_no _ _ (by decide +kernel) (by decide +kernel), _, rfl, x, ns, v, s, rfl, hT, hv, _, rfl, ?_⟩
    cases e : tieB ns v with
    | true =>
      obtain ⟨i, b, rfl, hb⟩ := tieB_true e
      refine if_fa rfl ⟨_, rfl, x, C, dx, _, _, rfl, hx, T.cl, T.nB, tf_backs _ _, _, rfl, _, _, _, _, rfl, rfl, SqT.of ht, at_of (v := .int b) rfl ?_, k1 i b rfl hb⟩
      rw [List.getElem?_map, hb]
      rfl
    | false => exact if_tr rfl ⟨_, rfl, mkO_of (k2 e)⟩
end
end J

set_option Elab.async false
set_option linter.all false
set_option maxRecDepth 100000
set_option maxHeartbeats 4000000
namespace J
open PySem PySem.Spec PyProof.Rows L2
/-! ### which word is due -/
def backB (xs : List V) (k : Nat) : Bool := match xs[k]? with
  | some (.int n) => decide (xs[n.toNat]? = some (.int (k : Nat)))
  | _ => false
def dueS (xs : List V) : Option Str :=
  if 2 ≤ xs.length ∧ xs.length ≤ 4 then
    if ∀ x ∈ xs, wholeB x 0 ((xs.length : Nat) - 1) = true then
      if ∀ k, k < xs.length → backB xs k = true then none else some "back"
    else some "tie"
  else some "count"
def due : Sh → Option Str
  | .lst xs => dueS xs
  | .tup xs => dueS xs
  | _ => some "row"
def items : Sh → List V
  | .lst xs => xs
  | .tup xs => xs
  | _ => []
def Known (H : Hp) (xs : List V) : Prop := ∀ x ∈ xs, ∃ s, Is H x s
theorem Known.keep {H H' : Hp} {xs : List V} (h : Known H xs) (S : Same H H') : Known H' xs := fun x hx => by
  obtain ⟨s, q⟩ := h x hx
  exact ⟨s, q.keep S⟩
/-- what stands behind a due of none -/
structure GoodB (ns : List Int) : Prop where
  lo : 2 ≤ ns.length
  hi : ns.length ≤ 4
  rng : ∀ n ∈ ns, 0 ≤ n ∧ n < (ns.length : Nat)
  inv : ∀ (k : Nat) (b : Int), ns[k]? = some b → ns[b.toNat]? = some (k : Int)
theorem whole_int {x : V} {hi : Int} (h : wholeB x 0 hi = true) : ∃ n : Int, x = .int n ∧ 0 ≤ n ∧ n ≤ hi := by
  cases x with
  | int i =>
    have h' : (decide (0 ≤ i) && decide (i ≤ hi)) = true := h
    obtain ⟨h1, h2⟩ := Bool.and_eq_true_iff.mp h'
    exact ⟨i, rfl, of_decide_eq_true h1, of_decide_eq_true h2⟩
  | _ => cases h
theorem whole_of {n hi : Int} (h : 0 ≤ n) (h2 : n ≤ hi) : wholeB (.int n) 0 hi = true := by
  show (decide (0 ≤ n) && decide (n ≤ hi)) = true
  rw [decide_eq_true h, decide_eq_true h2]
  rfl
theorem all_ints {hi : Int} : ∀ {xs : List V}, (∀ x ∈ xs, wholeB x 0 hi = true) → ∃ ns : List Int, xs = ns.map V.int ∧ ∀ n ∈ ns, 0 ≤ n ∧ n ≤ hi
  | [], _ => ⟨[], rfl, fun n h => by cases h⟩
  | x :: xs, h => by
    obtain ⟨n, rfl, h1, h2⟩ := whole_int (h x List.mem_cons_self)
    obtain ⟨ns, rfl, q⟩ := all_ints (xs := xs) fun y hy => h y (List.mem_cons_of_mem _ hy)
    refine ⟨n :: ns, rfl, fun m hm => ?_⟩
    rcases List.mem_cons.mp hm with rfl | hm
    · exact ⟨h1, h2⟩
    · exact q m hm
theorem ints_at {ns : List Int} {k : Nat} {b : Int} (h : ns[k]? = some b) : (ns.map V.int)[k]? = some (V.int b) := by
  rw [List.getElem?_map, h]
  rfl
theorem backB_iff {ns : List Int} {k : Nat} {b : Int} (h : ns[k]? = some b) : backB (ns.map V.int) k = decide (ns[b.toNat]? = some (k : Int)) := by
  unfold backB
  rw [ints_at h]
  show decide ((ns.map V.int)[b.toNat]? = some (V.int (k : Nat))) = _
  rw [List.getElem?_map]
  cases e : ns[b.toNat]? with
  | none => simp
  | some c => simp
theorem good_of {xs : List V} (h : dueS xs = none) : ∃ ns : List Int, xs = ns.map V.int ∧ GoodB ns := by
  unfold dueS at h
  split at h
  · rename_i h1
    split at h
    · rename_i h2
      split at h
      · rename_i h3
        obtain ⟨ns, rfl, q⟩ := all_ints h2
        rw [List.length_map] at h1 h3 q
        refine ⟨ns, rfl, h1.1, h1.2, fun n hn => ⟨(q n hn).1, by have := (q n hn).2; omega⟩, fun k b hb => ?_⟩
        have hk := (List.getElem?_eq_some_iff.mp hb).1
        have z := h3 k hk
        rw [backB_iff hb] at z
        exact of_decide_eq_true z
      · cases h
    · cases h
  · cases h
theorem due_of {ns : List Int} (g : GoodB ns) : dueS (ns.map V.int) = none := by
  unfold dueS
  rw [List.length_map, if_pos ⟨g.lo, g.hi⟩, if_pos, if_pos]
  · intro k hk
    obtain ⟨b, hb⟩ : ∃ b, ns[k]? = some b := ⟨ns[k], List.getElem?_eq_getElem hk⟩
    rw [backB_iff hb]
    exact decide_eq_true (g.inv k b hb)
  · intro x hx
    obtain ⟨n, hn, rfl⟩ := List.mem_map.mp hx
    have := g.rng n hn
    exact whole_of this.1 (by omega)
theorem Tells.mono {H H1 : Hp} {C : Addr} {f : Str} {v : V} {E : XK} (h : Tells H C f v E) (S : Same H H1) : Tells H1 C f v E := fun d H' n S1 e => h d H' (S.free n) (S.trans S1) e
theorem fault_count {xs : List V} (h : ¬ (2 ≤ xs.length ∧ xs.length ≤ 4)) : dueS xs = some ("count" : Str) := by
  unfold dueS
  rw [if_neg h]
theorem fault_tie {xs : List V} {x : V} (h : 2 ≤ xs.length ∧ xs.length ≤ 4) (hx : x ∈ xs) (e : wholeB x 0 ((xs.length : Nat) - 1) = false) : dueS xs = some ("tie" : Str) := by
  unfold dueS
  rw [if_pos h, if_neg]
  intro q
  rw [q x hx] at e
  cases e
theorem fault_back {xs : List V} {k : Nat} (h : 2 ≤ xs.length ∧ xs.length ≤ 4) (ha : ∀ x ∈ xs, wholeB x 0 ((xs.length : Nat) - 1) = true) (hk : k < xs.length) (e : backB xs k = false) : dueS xs = some ("back" : Str) := by
  unfold dueS
  rw [if_pos h, if_pos ha, if_neg]
  intro q
  rw [q k hk] at e
  cases e
theorem fault_none {xs : List V} (h : 2 ≤ xs.length ∧ xs.length ≤ 4) (ha : ∀ x ∈ xs, wholeB x 0 ((xs.length : Nat) - 1) = true) (e : ∀ k, k < xs.length → backB xs k = true) : dueS xs = none := by
  unfold dueS
  rw [if_pos h, if_pos ha, if_pos e]
def faultV : Option Str → V
  | none => .non
  | some w => .str w
abbrev s_ties_fault : Stmt := top 14
theorem sc_ties_fault : FnScope ["backs", "many", "back", "tie"] ["backs"] (defScope s_ties_fault) := ⟨rfl, rfl, rfl, by decide +kernel, rfl, by decide +kernel, by decide +kernel⟩
def spFault : Sp := fun vs H Q _ => ∃ (v : V) (s : Sh), vs = [v] ∧ Is H v s ∧ Known H (items s) ∧ ∀ H', Same H H' → Q (faultV (due s)) H'
abbrev s_Ties_init : Stmt := inClass (top 13) 0
theorem sc_Ties_init : FnScope ["self", "backs", "what"] ["self", "backs"] (defScope s_Ties_init) := ⟨rfl, rfl, rfl, by decide +kernel, rfl, by decide +kernel, by decide +kernel⟩
def spTies (C CB : Addr) : Sp := fun vs H Q E => ∃ (x dx : Addr) (v : V) (s : Sh), vs = [.ref x, v] ∧ H x = some (.ins C dx []) ∧ Is H v s ∧ Known H (items s) ∧ (∀ w, due s = some w → Tells H CB "what" (.str w) E) ∧
  (∀ ns, due s = none → items s = ns.map V.int → ∀ H', But x H H' → TiesAt C H' x ns → Q .non H')
section
variable {P : Program} {w : World} {K : PySem.W.Frag} {mg : Str → Option Value} {base : Heap}
theorem ok_ties_fault {f fS fW : Addr} {fd fdS fdW : FuncData} (F : Fun K "ties_fault" "ties_fault" s_ties_fault f fd) (nl : mg "len" = none) (nr : mg "range" = none) (na : mg "all" = none) (mM : ∃ t, mg "MOST_TIES" = some (.int 4 t))
    (GS : Cal P w K mg base CX0 1 "is_sequence" fS fdS ["thing"] spSeq) (GW : Cal P w K mg base CX0 1 "is_whole" fW fdW ["thing", "low", "high"] spWhole) : FnOk P w K mg base CX0 2 f fd ["backs"] spFault := by
  obtain ⟨tM, mM⟩ := mM
  refine F.ok sc_ties_fault (fun vs H Q E h => ?_) (fun cdv A outer s H vs Q E hr h => ?_)
  · obtain ⟨v, s, rfl, _⟩ := h
    rfl
  · obtain ⟨v, sh, rfl, hv, kn, k⟩ := h
    cases sh with
    | sc u =>
      refine ⟨_, (pss_cons 
  (ps_if (pt_not (pt_val (pcal GS hr pass0 (pa_cons (pv 0) pa_nil)))) (pss_one 
    (ps_ret pe_str)) pss_nil) (pss_cons 
  (ps_set (i := 1) sc_ties_fault.nd rfl (Or.inr rfl) (pe_callB call_len_seq (by rfl) nl PySem.boot_len (pa_cons (pv 0) pa_nil))) (pss_cons 
  (ps_if (pt_not (pt_chain op_le op_le pe_int (pv 1) (pe_glob (v := .int 4) rfl mM ⟨_, rfl⟩))) (pss_one 
    (ps_ret pe_str)) pss_nil) (pss_cons 
  (ps_if (pt_not (pt_val (pe_callB (cr_all rfl) (by rfl) na (by decide +kernel) (pa_cons (pe_lc (own := [("back", 2)]) (g := gName 2) (by rfl) sc_ties_fault.nd (pi_list (pv 0)) (blkOk_by (own := [("back", 2)]) (N := ["backs", "many", "back", "tie"]) (sc := defScope s_ties_fault) (by decide +kernel)) (fun _ _ _ _ _ => pg_name (i := 2) sc_ties_fault.nd rfl (Or.inl rfl)) (fun _ _ _ _ _ => pts_nil) (fun _ _ _ _ _ => (pcal GW hr pass0 (pa_cons (pv 2) (pa_cons pe_int (pa_cons (pe_op op_sub (pv 1) pe_int) pa_nil)))))) pa_nil)))) (pss_one 
    (ps_ret pe_str)) pss_nil) (pss_cons 
  (ps_if (pt_not (pt_val (pe_callB (cr_all rfl) (by rfl) na (by decide +kernel) (pa_cons (pe_lc (own := [("tie", 3)]) (g := gName 3) (by rfl) sc_ties_fault.nd (pi_range1 (by rfl) nr (pa_cons (pv 1) pa_nil)) (blkOk_by (own := [("tie", 3)]) (N := ["backs", "many", "back", "tie"]) (sc := defScope s_ties_fault) (by decide +kernel)) (fun _ _ _ _ _ => pg_name (i := 3) sc_ties_fault.nd rfl (Or.inl rfl)) (fun _ _ _ _ _ => pts_nil) (fun _ _ _ _ _ => (pe_cmpR op_eq (pe_ix (r := rIxL K) ix_list (pv 0) (pe_ix (r := rIxL K) ix_list (pv 0) (pv 3) (fun _ _ => rfl)) (fun _ _ => rfl)) (pv 3) (nomark _)))) pa_nil)))) (pss_one 
    (ps_ret pe_str)) pss_nil) (pss_one 
  (ps_ret pe_non))))))), ?_⟩
      exact ⟨_, rfl, _, (.sc u), rfl, hv, fun H1 S1 => ⟨_, rfl, iteT (k _ S1)⟩⟩
    | dk =>
      refine ⟨_, (pss_cons 
  (ps_if (pt_not (pt_val (pcal GS hr pass0 (pa_cons (pv 0) pa_nil)))) (pss_one 
    (ps_ret pe_str)) pss_nil) (pss_cons 
  (ps_set (i := 1) sc_ties_fault.nd rfl (Or.inr rfl) (pe_callB call_len_seq (by rfl) nl PySem.boot_len (pa_cons (pv 0) pa_nil))) (pss_cons 
  (ps_if (pt_not (pt_chain op_le op_le pe_int (pv 1) (pe_glob (v := .int 4) rfl mM ⟨_, rfl⟩))) (pss_one 
    (ps_ret pe_str)) pss_nil) (pss_cons 
  (ps_if (pt_not (pt_val (pe_callB (cr_all rfl) (by rfl) na (by decide +kernel) (pa_cons (pe_lc (own := [("back", 2)]) (g := gName 2) (by rfl) sc_ties_fault.nd (pi_list (pv 0)) (blkOk_by (own := [("back", 2)]) (N := ["backs", "many", "back", "tie"]) (sc := defScope s_ties_fault) (by decide +kernel)) (fun _ _ _ _ _ => pg_name (i := 2) sc_ties_fault.nd rfl (Or.inl rfl)) (fun _ _ _ _ _ => pts_nil) (fun _ _ _ _ _ => (pcal GW hr pass0 (pa_cons (pv 2) (pa_cons pe_int (pa_cons (pe_op op_sub (pv 1) pe_int) pa_nil)))))) pa_nil)))) (pss_one 
    (ps_ret pe_str)) pss_nil) (pss_cons 
  (ps_if (pt_not (pt_val (pe_callB (cr_all rfl) (by rfl) na (by decide +kernel) (pa_cons (pe_lc (own := [("tie", 3)]) (g := gName 3) (by rfl) sc_ties_fault.nd (pi_range1 (by rfl) nr (pa_cons (pv 1) pa_nil)) (blkOk_by (own := [("tie", 3)]) (N := ["backs", "many", "back", "tie"]) (sc := defScope s_ties_fault) (by decide +kernel)) (fun _ _ _ _ _ => pg_name (i := 3) sc_ties_fault.nd rfl (Or.inl rfl)) (fun _ _ _ _ _ => pts_nil) (fun _ _ _ _ _ => (pe_cmpR op_eq (pe_ix (r := rIxL K) ix_list (pv 0) (pe_ix (r := rIxL K) ix_list (pv 0) (pv 3) (fun _ _ => rfl)) (fun _ _ => rfl)) (pv 3) (nomark _)))) pa_nil)))) (pss_one 
    (ps_ret pe_str)) pss_nil) (pss_one 
  (ps_ret pe_non))))))), ?_⟩
      exact ⟨_, rfl, _, .dk, rfl, hv, fun H1 S1 => ⟨_, rfl, iteT (k _ S1)⟩⟩
    | lst xs =>
      obtain ⟨p, rfl, hp⟩ := hv
      refine ⟨_, (pss_cons 
  (ps_if (pt_not (pt_val (pcal GS hr pass0 (pa_cons (pv 0) pa_nil)))) (pss_one 
    (ps_ret pe_str)) pss_nil) (pss_cons 
  (ps_set (i := 1) sc_ties_fault.nd rfl (Or.inr rfl) (pe_callB call_len_seq (by rfl) nl PySem.boot_len (pa_cons (pv 0) pa_nil))) (pss_cons 
  (ps_if (pt_not (pt_chain op_le op_le pe_int (pv 1) (pe_glob (v := .int 4) rfl mM ⟨_, rfl⟩))) (pss_one 
    (ps_ret pe_str)) pss_nil) (pss_cons 
  (ps_if (pt_not (pt_val (pe_callB (cr_all rfl) (by rfl) na (by decide +kernel) (pa_cons (pe_lc (own := [("back", 2)]) (g := gName 2) (by rfl) sc_ties_fault.nd (pi_list (pv 0)) (blkOk_by (own := [("back", 2)]) (N := ["backs", "many", "back", "tie"]) (sc := defScope s_ties_fault) (by decide +kernel)) (fun _ _ _ _ _ => pg_name (i := 2) sc_ties_fault.nd rfl (Or.inl rfl)) (fun _ _ _ _ _ => pts_nil) (fun _ _ _ _ _ => (pcal GW hr pass0 (pa_cons (pv 2) (pa_cons pe_int (pa_cons (pe_op op_sub (pv 1) pe_int) pa_nil)))))) pa_nil)))) (pss_one 
    (ps_ret pe_str)) pss_nil) (pss_cons 
  (ps_if (pt_not (pt_val (pe_callB (cr_all rfl) (by rfl) na (by decide +kernel) (pa_cons (pe_lc (own := [("tie", 3)]) (g := gName 3) (by rfl) sc_ties_fault.nd (pi_range1 (by rfl) nr (pa_cons (pv 1) pa_nil)) (blkOk_by (own := [("tie", 3)]) (N := ["backs", "many", "back", "tie"]) (sc := defScope s_ties_fault) (by decide +kernel)) (fun _ _ _ _ _ => pg_name (i := 3) sc_ties_fault.nd rfl (Or.inl rfl)) (fun _ _ _ _ _ => pts_nil) (fun _ _ _ _ _ => (pe_cmpR op_eq (pe_ix (r := rIxL K) ix_list (pv 0) (pe_ix (r := rIxL K) ix_list (pv 0) (pv 3) (fun _ _ => rfl)) (fun _ _ => rfl)) (pv 3) (nomark _)))) pa_nil)))) (pss_one 
    (ps_ret pe_str)) pss_nil) (pss_one 
  (ps_ret pe_non))))))), ?_⟩
      refine ⟨_, rfl, _, .lst xs, rfl, ⟨p, rfl, hp⟩, fun H1 S1 => ⟨_, rfl, iteF ?_⟩⟩
      have h1 := S1 _ _ hp
      have kn1 : Known H1 xs := kn.keep S1
      have say : ∀ (H2 : Hp) (o : Option Str), Same H1 H2 → dueS xs = o → Q (faultV o) H2 := fun H2 o S2 e => by
        have z := k _ (S1.trans S2)
        have e2 : due (.lst xs) = o := e
        rw [e2] at z
        exact z
      refine ⟨_, rfl, p, xs, rfl, .inl (SqL.of h1), ?_⟩
      refine ⟨_, rfl, _, _, rfl, rfl, _, rfl, ?_⟩
      by_cases c1 : (2 : Int) ≤ ((xs.length : Nat) : Int)
      case neg => exact if_fa (decide_eq_false c1) ⟨_, rfl, iteT (say _ (some "count") (Same.refl _) (fault_count (by omega)))⟩
      refine if_tr (decide_eq_true c1) ⟨_, _, rfl, rfl, _, rfl, ?_⟩
      by_cases c2 : ((xs.length : Nat) : Int) ≤ 4
      case neg =>
        rw [decide_eq_false c2]
        exact iteT (say _ (some "count") (Same.refl _) (fault_count (by omega)))
      rw [decide_eq_true c2]
      refine iteF ?_
      have c12 : 2 ≤ xs.length ∧ xs.length ≤ 4 := by omega
      refine ⟨_, rfl, p, rfl, ⟨_, SqL.of h1⟩, fun D hD => ?_⟩
      refine lc_list (K := K) (a := p) (xs := xs) (fun i H2 => Same H1 H2 ∧ H1 D = none ∧ H2 D = some (.lst ((xs.take i).map fun y => V.bl (wholeB y 0 ((xs.length : Nat) - 1))))) ⟨new_same hD, hD, upd_same⟩ (fun i H2 _ ⟨S, _⟩ => SqL.of (S _ _ h1)) ?_ ?_
      · rintro i y H2 hy ⟨S2, D0, eD⟩
        have hi := (List.getElem?_eq_some_iff.mp hy).1
        obtain ⟨sy, isy⟩ := kn1 y (List.mem_of_getElem? hy)
        refine ⟨rfl, yesT ?_⟩
        refine ⟨_, rfl, _, rfl, _, _, rfl, rfl, y, sy, _, _, rfl, isy.keep S2, _, eD, small1000 (by rw [List.length_map, List.length_take]; omega), fun b o e => ?_, D0, by rw [upd_same, List.take_add_one, hy, List.map_append]; rfl⟩
        rw [upd_ne (ne_of_none e D0)]
        exact S2 _ _ e
      rintro H2 ⟨S2, D0, eD⟩
      rw [List.take_length] at eD
      refine ⟨D, xs.map fun y => wholeB y 0 ((xs.length : Nat) - 1), rfl, SqL.of (by rw [eD, List.map_map]; rfl), _, rfl, ?_⟩
      cases ea : (xs.map fun y => wholeB y 0 ((xs.length : Nat) - 1)).all id with
      | false =>
        refine iteT (say _ (some "tie") S2 ?_)
        rw [List.all_map, List.all_eq_false] at ea
        obtain ⟨x, hx, hw⟩ := ea
        exact fault_tie c12 hx (by simpa using hw)
      | true =>
        refine iteF ?_
        rw [List.all_map, List.all_eq_true] at ea
        have hall : ∀ x ∈ xs, wholeB x 0 ((xs.length : Nat) - 1) = true := fun x hx => ea x hx
        obtain ⟨ns, hns, hr2⟩ := all_ints hall
        have hln : xs.length = ns.length := by rw [hns, List.length_map]
        refine ⟨_, rfl, (xs.length : Nat), rfl, by omega, by omega, fun E' hE => ?_⟩
        refine lc_range (lo := 0) (n := xs.length) (fun i H3 => Same H2 H3 ∧ H2 E' = none ∧ H3 E' = some (.lst ((List.range i).map fun j => V.bl (backB xs j)))) ⟨new_same hE, hE, upd_same⟩ ?_ ?_
        · rintro i H3 hi ⟨S3, E0, eE⟩
          have h3 := S3 _ _ (S2 _ _ h1)
          have hi' : i < ns.length := by omega
          have hbi : ns[i]? = some ns[i] := List.getElem?_eq_getElem hi'
          have hmem := hr2 _ (List.getElem_mem hi')
          generalize ns[i] = b at hbi hmem
          have hbl : b.toNat < ns.length := by omega
          have hci : ns[b.toNat]? = some ns[b.toNat] := List.getElem?_eq_getElem hbl
          generalize ns[b.toNat] = c at hci
          have hbk := backB_iff hbi
          rw [← hns, hci] at hbk
          have val : decide (V.int c = V.int (0 + (i : Nat))) = backB xs i := by
            rw [hbk]
            by_cases z : c = (i : Int) <;> simp [z]
          refine ⟨rfl, yesT ?_⟩
          refine ⟨_, rfl, _, rfl, _, rfl, _, _, _, _, rfl, rfl, SqL.of h3, at_of (j := i) (v := .int b) (by omega) (by rw [hns]; exact ints_at hbi), _, _, _, _, rfl, rfl, SqL.of h3, at_of (j := b.toNat) (v := .int c) (by omega) (by rw [hns]; exact ints_at hci), _, rfl, rfl, _, eE, small1000 (by rw [List.length_map, List.length_range]; omega), fun b' o e => ?_, E0, ?_⟩
          · rw [upd_ne (ne_of_none e E0)]
            exact S3 _ _ e
          · rw [upd_same, val, List.range_succ, List.map_append]
            rfl
        rintro H3 ⟨S3, E0, eE⟩
        refine ⟨E', (List.range xs.length).map (backB xs), rfl, SqL.of (by rw [eE, List.map_map]; rfl), _, rfl, ?_⟩
        cases eb : ((List.range xs.length).map (backB xs)).all id with
        | false =>
          refine iteT (say _ (some "back") (S2.trans S3) ?_)
          rw [List.all_map, List.all_eq_false] at eb
          obtain ⟨j, hj, hw⟩ := eb
          exact fault_back c12 hall (List.mem_range.mp hj) (by simpa using hw)
        | true =>
          refine iteF (say _ none (S2.trans S3) ?_)
          rw [List.all_map, List.all_eq_true] at eb
          exact fault_none c12 hall fun j hj => eb j (List.mem_range.mpr hj)
    | tup xs =>
      obtain ⟨p, rfl, hp⟩ := hv
      refine ⟨_, (pss_cons 
  (ps_if (pt_not (pt_val (pcal GS hr pass0 (pa_cons (pv 0) pa_nil)))) (pss_one 
    (ps_ret pe_str)) pss_nil) (pss_cons 
  (ps_set (i := 1) sc_ties_fault.nd rfl (Or.inr rfl) (pe_callB call_len_seq (by rfl) nl PySem.boot_len (pa_cons (pv 0) pa_nil))) (pss_cons 
  (ps_if (pt_not (pt_chain op_le op_le pe_int (pv 1) (pe_glob (v := .int 4) rfl mM ⟨_, rfl⟩))) (pss_one 
    (ps_ret pe_str)) pss_nil) (pss_cons 
  (ps_if (pt_not (pt_val (pe_callB (cr_all rfl) (by rfl) na (by decide +kernel) (pa_cons (pe_lc (own := [("back", 2)]) (g := gName 2) (by rfl) sc_ties_fault.nd (pi_tup (pv 0)) (blkOk_by (own := [("back", 2)]) (N := ["backs", "many", "back", "tie"]) (sc := defScope s_ties_fault) (by decide +kernel)) (fun _ _ _ _ _ => pg_name (i := 2) sc_ties_fault.nd rfl (Or.inl rfl)) (fun _ _ _ _ _ => pts_nil) (fun _ _ _ _ _ => (pcal GW hr pass0 (pa_cons (pv 2) (pa_cons pe_int (pa_cons (pe_op op_sub (pv 1) pe_int) pa_nil)))))) pa_nil)))) (pss_one 
    (ps_ret pe_str)) pss_nil) (pss_cons 
  (ps_if (pt_not (pt_val (pe_callB (cr_all rfl) (by rfl) na (by decide +kernel) (pa_cons (pe_lc (own := [("tie", 3)]) (g := gName 3) (by rfl) sc_ties_fault.nd (pi_range1 (by rfl) nr (pa_cons (pv 1) pa_nil)) (blkOk_by (own := [("tie", 3)]) (N := ["backs", "many", "back", "tie"]) (sc := defScope s_ties_fault) (by decide +kernel)) (fun _ _ _ _ _ => pg_name (i := 3) sc_ties_fault.nd rfl (Or.inl rfl)) (fun _ _ _ _ _ => pts_nil) (fun _ _ _ _ _ => (pe_cmpR op_eq (pe_ix (r := rIxT K) ix_tup (pv 0) (pe_ix (r := rIxT K) ix_tup (pv 0) (pv 3) (fun _ _ => rfl)) (fun _ _ => rfl)) (pv 3) (nomark _)))) pa_nil)))) (pss_one 
    (ps_ret pe_str)) pss_nil) (pss_one 
  (ps_ret pe_non))))))), ?_⟩
      refine ⟨_, rfl, _, .tup xs, rfl, ⟨p, rfl, hp⟩, fun H1 S1 => ⟨_, rfl, iteF ?_⟩⟩
      have h1 := S1 _ _ hp
      have kn1 : Known H1 xs := kn.keep S1
      have say : ∀ (H2 : Hp) (o : Option Str), Same H1 H2 → dueS xs = o → Q (faultV o) H2 := fun H2 o S2 e => by
        have z := k _ (S1.trans S2)
        have e2 : due (.tup xs) = o := e
        rw [e2] at z
        exact z
      refine ⟨_, rfl, p, xs, rfl, .inr (SqT.of h1), ?_⟩
      refine ⟨_, rfl, _, _, rfl, rfl, _, rfl, ?_⟩
      by_cases c1 : (2 : Int) ≤ ((xs.length : Nat) : Int)
      case neg => exact if_fa (decide_eq_false c1) ⟨_, rfl, iteT (say _ (some "count") (Same.refl _) (fault_count (by omega)))⟩
      refine if_tr (decide_eq_true c1) ⟨_, _, rfl, rfl, _, rfl, ?_⟩
      by_cases c2 : ((xs.length : Nat) : Int) ≤ 4
      case neg =>
        rw [decide_eq_false c2]
        exact iteT (say _ (some "count") (Same.refl _) (fault_count (by omega)))
      rw [decide_eq_true c2]
      refine iteF ?_
      have c12 : 2 ≤ xs.length ∧ xs.length ≤ 4 := by omega
      refine ⟨_, rfl, p, rfl, ⟨_, SqT.of h1⟩, fun D hD => ?_⟩
      refine lc_tup (K := K) (a := p) (xs := xs) (fun i H2 => Same H1 H2 ∧ H1 D = none ∧ H2 D = some (.lst ((xs.take i).map fun y => V.bl (wholeB y 0 ((xs.length : Nat) - 1))))) ⟨new_same hD, hD, upd_same⟩ (fun i H2 _ ⟨S, _⟩ => SqT.of (S _ _ h1)) ?_ ?_
      · rintro i y H2 hy ⟨S2, D0, eD⟩
        have hi := (List.getElem?_eq_some_iff.mp hy).1
        obtain ⟨sy, isy⟩ := kn1 y (List.mem_of_getElem? hy)
        refine ⟨rfl, yesT ?_⟩
        refine ⟨_, rfl, _, rfl, _, _, rfl, rfl, y, sy, _, _, rfl, isy.keep S2, _, eD, small1000 (by rw [List.length_map, List.length_take]; omega), fun b o e => ?_, D0, by rw [upd_same, List.take_add_one, hy, List.map_append]; rfl⟩
        rw [upd_ne (ne_of_none e D0)]
        exact S2 _ _ e
      rintro H2 ⟨S2, D0, eD⟩
      rw [List.take_length] at eD
      refine ⟨D, xs.map fun y => wholeB y 0 ((xs.length : Nat) - 1), rfl, SqL.of (by rw [eD, List.map_map]; rfl), _, rfl, ?_⟩
      cases ea : (xs.map fun y => wholeB y 0 ((xs.length : Nat) - 1)).all id with
      | false =>
        refine iteT (say _ (some "tie") S2 ?_)
        rw [List.all_map, List.all_eq_false] at ea
        obtain ⟨x, hx, hw⟩ := ea
        exact fault_tie c12 hx (by simpa using hw)
      | true =>
        refine iteF ?_
        rw [List.all_map, List.all_eq_true] at ea
        have hall : ∀ x ∈ xs, wholeB x 0 ((xs.length : Nat) - 1) = true := fun x hx => ea x hx
        obtain ⟨ns, hns, hr2⟩ := all_ints hall
        have hln : xs.length = ns.length := by rw [hns, List.length_map]
        refine ⟨_, rfl, (xs.length : Nat), rfl, by omega, by omega, fun E' hE => ?_⟩
        refine lc_range (lo := 0) (n := xs.length) (fun i H3 => Same H2 H3 ∧ H2 E' = none ∧ H3 E' = some (.lst ((List.range i).map fun j => V.bl (backB xs j)))) ⟨new_same hE, hE, upd_same⟩ ?_ ?_
        · rintro i H3 hi ⟨S3, E0, eE⟩
          have h3 := S3 _ _ (S2 _ _ h1)
          have hi' : i < ns.length := by omega
          have hbi : ns[i]? = some ns[i] := List.getElem?_eq_getElem hi'
          have hmem := hr2 _ (List.getElem_mem hi')
          generalize ns[i] = b at hbi hmem
          have hbl : b.toNat < ns.length := by omega
          have hci : ns[b.toNat]? = some ns[b.toNat] := List.getElem?_eq_getElem hbl
          generalize ns[b.toNat] = c at hci
          have hbk := backB_iff hbi
          rw [← hns, hci] at hbk
          have val : decide (V.int c = V.int (0 + (i : Nat))) = backB xs i := by
            rw [hbk]
            by_cases z : c = (i : Int) <;> simp [z]
          refine ⟨rfl, yesT ?_⟩
          refine ⟨_, rfl, _, rfl, _, rfl, _, _, _, _, rfl, rfl, SqT.of h3, at_of (j := i) (v := .int b) (by omega) (by rw [hns]; exact ints_at hbi), _, _, _, _, rfl, rfl, SqT.of h3, at_of (j := b.toNat) (v := .int c) (by omega) (by rw [hns]; exact ints_at hci), _, rfl, rfl, _, eE, small1000 (by rw [List.length_map, List.length_range]; omega), fun b' o e => ?_, E0, ?_⟩
          · rw [upd_ne (ne_of_none e E0)]
            exact S3 _ _ e
          · rw [upd_same, val, List.range_succ, List.map_append]
            rfl
        rintro H3 ⟨S3, E0, eE⟩
        refine ⟨E', (List.range xs.length).map (backB xs), rfl, SqL.of (by rw [eE, List.map_map]; rfl), _, rfl, ?_⟩
        cases eb : ((List.range xs.length).map (backB xs)).all id with
        | false =>
          refine iteT (say _ (some "back") (S2.trans S3) ?_)
          rw [List.all_map, List.all_eq_false] at eb
          obtain ⟨j, hj, hw⟩ := eb
          exact fault_back c12 hall (List.mem_range.mp hj) (by simpa using hw)
        | true =>
          refine iteF (say _ none (S2.trans S3) ?_)
          rw [List.all_map, List.all_eq_true] at eb
          exact fault_none c12 hall fun j hj => eb j (List.mem_range.mpr hj)
theorem ok_Ties_init {f C CB fC fI : Addr} {fd fdC fdI : FuncData} (F : Fun K "__init__" "Ties.__init__" s_Ties_init f fd) (T : TiC K C) (nl : mg "len" = none) (nt : mg "tuple" = none)
    (GF : Cal P w K mg base CX0 2 "ties_fault" fC fdC ["backs"] spFault) (GB : Ex P w K mg base "BadTies" "what" CB fI fdI ["self", "what"]) : FnOk P w K mg base (L2.CX P w) 4 f fd ["self", "backs"] (spTies C CB) := by
  refine F.okX sc_Ties_init (fun vs H Q E h => ?_) (fun cdv A outer s H vs Q E hr h => ?_)
  · obtain ⟨x, dx, v, s, rfl, _⟩ := h
    rfl
  · obtain ⟨x, dx, v, sh, rfl, hx, hv, kn, k1, k2⟩ := h
    refine ⟨_, (pss_cons 
  (ps_set (i := 2) sc_Ties_init.nd rfl (Or.inl rfl) (pcal GF hr pass0 (pa_cons (pv 1) pa_nil))) (pss_cons 
  (ps_if (pt_cmpR op_notN (pv 2) pe_non (nomark _)) (pss_one 
    (ps_raise rfl (takes_of rfl rfl rfl rfl) (pmk_oex GB.o GB.i GB.t GB.F (hr.mono (by decide)) GB.b .nil pass0 rfl GB.m (pa_cons (pv 2) pa_nil)))) pss_nil) (pss_cons 
  (ps_fld (pv 0) (pe_callTy (T := "tuple") (r := fun xs H Q => ∃ p ys, xs = [.ref p] ∧ ((SqL K H p ys ∧ ∀ l, H l = none → Q (.ref l) (upd H l (.tup ys))) ∨ (SqT K H p ys ∧ Q (.ref p) H))) call_tuple_of (by rfl) nt (by decide +kernel) (pa_cons (pv 1) pa_nil)) rfl) (pss_one 
  (ps_fld (pv 0) (pe_callB call_len_seq (by rfl) nl PySem.boot_len (pa_cons (pe_fld (pv 0) rfl) pa_nil)) rfl))))), ?_⟩
    refine ⟨_, rfl, v, sh, rfl, hv, kn, fun H1 S1 => ?_⟩
    have k1' := k1
    cases hd : due sh with
    | some u =>
      refine ⟨_, rfl, rfl, _, rfl, if_tr (by simp [faultV]) ⟨_, rfl, mkO_of ((k1 u hd).mono S1)⟩⟩
    | none =>
      refine ⟨_, rfl, rfl, _, rfl, if_fa (by simp [faultV]) ?_⟩
      have hx1 := S1 _ _ hx
      cases sh with
      | sc u => cases hd
      | dk => cases hd
      | lst xs =>
        obtain ⟨p, rfl, hp⟩ := hv
        obtain ⟨ns, e, g⟩ := good_of hd
        subst e
        have npx : p ≠ x := ne_of hp hx (by intro z; cases z)
        have h1 := S1 _ _ hp
        refine ⟨_, rfl, p, _, rfl, .inl ⟨SqL.of h1, fun t ht => ?_⟩⟩
        have ntx : t ≠ x := (ne_of_none hx1 ht).symm
        refine ⟨_, rfl, x, C, dx, [], rfl, (by rw [upd_ne ntx.symm]; exact hx1), T.cl, T.nB, (by show 0 < 1000; decide), ?_⟩
        refine ⟨_, rfl, x, C, dx, _, _, rfl, upd_same, T.cl, T.nB, (by rw [lookup_putF, if_pos rfl]), t, _, rfl, .inr (SqT.of (by rw [upd_ne ntx, upd_same])), ?_⟩
        refine ⟨_, rfl, x, C, dx, _, rfl, upd_same, T.cl, T.nM, (by show 1 < 1000; decide), ?_⟩
        refine k2 ns hd rfl _ (fun b o nb eb => ?_) ⟨dx, t, by rw [upd_same, List.length_map]; rfl, by rw [upd_ne ntx, upd_ne ntx, upd_same]⟩
        have e1 := S1 _ _ eb
        rw [upd_ne nb, upd_ne nb, upd_ne (ne_of_none e1 ht)]
        exact e1
      | tup xs =>
        obtain ⟨p, rfl, hp⟩ := hv
        obtain ⟨ns, e, g⟩ := good_of hd
        subst e
        have npx : p ≠ x := ne_of hp hx (by intro z; cases z)
        have h1 := S1 _ _ hp
        refine ⟨_, rfl, p, _, rfl, .inr ⟨SqT.of h1, ?_⟩⟩
        refine ⟨_, rfl, x, C, dx, [], rfl, hx1, T.cl, T.nB, (by show 0 < 1000; decide), ?_⟩
        refine ⟨_, rfl, x, C, dx, _, _, rfl, upd_same, T.cl, T.nB, (by rw [lookup_putF, if_pos rfl]), p, _, rfl, .inr (SqT.of (by rw [upd_ne npx]; exact h1)), ?_⟩
        refine ⟨_, rfl, x, C, dx, _, rfl, upd_same, T.cl, T.nM, (by show 1 < 1000; decide), ?_⟩
        refine k2 ns hd rfl _ (fun b o nb eb => ?_) ⟨dx, p, by rw [upd_same, List.length_map]; rfl, by rw [upd_ne npx, upd_ne npx]; exact h1⟩
        rw [upd_ne nb, upd_ne nb]
        exact S1 _ _ eb
end
end J

set_option Elab.async false
set_option linter.all false
set_option maxRecDepth 100000
set_option maxHeartbeats 4000000
namespace J
open PySem PySem.Spec PyProof.Rows L2
def wordV : Option Str → V
  | none => .non
  | some w => .str w
def spDueX : Sp := fun vs H Q E => ∃ (v : V) (s : Sh), vs = [v] ∧ Is H v s ∧ Known H (items s) ∧ ∀ H', Same H H' → Q (wordV (due s)) H'
theorem dueS_count {xs : List V} (h : ¬ (2 ≤ xs.length ∧ xs.length ≤ 4)) : dueS xs = some ("count" : Str) := by
  unfold dueS
  rw [if_neg h]
theorem dueS_tie {xs : List V} {x : V} (h : 2 ≤ xs.length ∧ xs.length ≤ 4) (hx : x ∈ xs) (e : wholeB x 0 ((xs.length : Nat) - 1) = false) : dueS xs = some ("tie" : Str) := by
  unfold dueS
  rw [if_pos h, if_neg]
  intro q
  rw [q x hx] at e
  cases e
theorem dueS_back {xs : List V} {k : Nat} (h : 2 ≤ xs.length ∧ xs.length ≤ 4) (ha : ∀ x ∈ xs, wholeB x 0 ((xs.length : Nat) - 1) = true) (hk : k < xs.length) (e : backB xs k = false) : dueS xs = some ("back" : Str) := by
  unfold dueS
  rw [if_pos h, if_pos ha, if_neg]
  intro q
  rw [q k hk] at e
  cases e
theorem dueS_none {xs : List V} (h : 2 ≤ xs.length ∧ xs.length ≤ 4) (ha : ∀ x ∈ xs, wholeB x 0 ((xs.length : Nat) - 1) = true) (e : ∀ k, k < xs.length → backB xs k = true) : dueS xs = none := by
  unfold dueS
  rw [if_pos h, if_pos ha, if_pos e]
theorem whole_lo {n lo hi : Int} (h : ¬ lo ≤ n) : wholeB (.int n) lo hi = false := by
  show (decide (lo ≤ n) && decide (n ≤ hi)) = false
  rw [decide_eq_false h]
  rfl
theorem whole_hi {n lo hi : Int} (h : ¬ n ≤ hi) : wholeB (.int n) lo hi = false := by
  show (decide (lo ≤ n) && decide (n ≤ hi)) = false
  rw [decide_eq_false h, Bool.and_false]
theorem is_new {K : PySem.W.Frag} {H : Hp} {x : V} {s : Sh} {p : Addr} (hx : Is H x s) (hp : H p = none) : ∃ t : String, TyX K (upd H p (.tup [.ty "list", .ty "tuple"])) x (.type t) ∧ PySem.W.kitAny K (.type t) [.type "list", .type "tuple"] = some (s.isL || s.isT) := by
  obtain ⟨t, ht, _, _, k1, k2⟩ := (hx.keep (new_same hp)).ty (K := K)
  exact ⟨t, ht, kit_seq k1 k2⟩
theorem isi_seq2 {K : PySem.W.Frag} {H : Hp} {x : V} {s : Sh} {Q : VK} {p : Addr} (hx : Is H x s) (hp : H p = none) (k : ∀ H', Same H H' → Q (.bl (s.isL || s.isT)) H') : rIsiT K [x, .ref p] (upd H p (.tup [.ty "list", .ty "tuple"])) Q := (isi_seq hx k).2 p hp
section
variable {P : Program} {w : World} {K : PySem.W.Frag} {mg : Str → Option Value} {base : Heap}
end
end J

set_option Elab.async false
set_option linter.all false
set_option maxRecDepth 100000
set_option maxHeartbeats 4000000
namespace J
open PySem PySem.Spec PyProof.Rows L2
/-! ### calls that may raise, within a try -/
section
variable {X : Cx} {CX : CXT} {k : Nat} {f C : Addr} {fd : FuncData} {ps : List Str} {sp : Sp} {E : L2.St → XK} {x m : Str} {p pos apos : Pos} {e o : Expr} {es : List Expr} {ta : TE} {t : TA}
def tMethS (m : Str) (sp : Sp) (C : Addr) (E : L2.St → XK) (ta : TE) (t : TA) : TE := fun σ H Q => ta σ H fun x H1 => ∃ a dx fs, x = .ref a ∧ H1 a = some (.ins C dx fs) ∧ fs.lookup m = none ∧ t σ H1 fun vs H2 => sp (.ref a :: vs) H2 Q (E σ)
theorem pmetS {pl : Sem Bool} (he : PE X o ta) (c : Cls X.K C) (hm : Meth X.K C m f) (F : FnOk X.prog X.w X.K X.mg X.base CX k f fd ps sp) (hr : Room k X.A) (hb : Binds X.K fd ps [])
    (hx : ∀ σ, PassesAt CX X σ (E σ)) (ha : PA X (e :: es) t)
    (hst : starEach (e :: es) X.env = (false, eval e X.env) :: starEach es X.env := by rfl)
    (hpl : (backTo pos (starEach es X.env)).any (·.1) = false := by rfl)
    (ht : eval (.Call (.Attribute o m apos) (e :: es) [] pos) X.env = (do let ov ← eval o X.env; standAt apos.atName; let (f, first) ← holding [ov] (getMethod ov m pl); callWith pos f first (backTo pos (starEach (e :: es) X.env)) (backToKw pos (keywordEach [] X.env))) := by rfl) :
    PE X (.Call (.Attribute o m apos) (e :: es) [] pos) (tMethS m sp C E ta t) := by
  constructor
  intro pins s σ H Q I h
  refine PySem.W.methodCall_KW (pl := pl) (thn (he.run pins s σ H _ I h) ?_) ht
  rintro u s1 ⟨x, H1, I1, rx, a, dx, fs, ex, ea, l, q⟩
  subst ex
  obtain rfl : u = Value.ref a := rx
  apply getmeth_ok I1 ea c hm l
  refine PySem.W.callWith_K (first := [.ref a]) (h₀ := X.base) I.ok.mod.kin hm.kp (thn (ha.run pos pins s1 σ H1 _ I1 q) ?_) hst hpl
  rintro us s2 ⟨vs, H2, I2, r, q2⟩
  refine ⟨I2.kIn, ?_⟩
  exact run_fnS (us := .ref a :: us) (vs := .ref a :: vs) F hr hb (hx σ) I2 (.cons rfl r) q2
def tMakeS (C : Addr) (sp : Sp) (E : L2.St → XK) (t : TA) : TE := fun σ H Q => t σ H fun vs H1 => ∀ x dx, H1 x = none → H1 dx = none → dx ≠ x → sp (.ref x :: vs) (upd (upd H1 dx (.own x)) x (.ins C dx [])) (fun v H2 => v = .non ∧ Q (.ref x) H2) (E σ)
theorem pmakS (M : Mk X.K C f) (F : FnOk X.prog X.w X.K X.mg X.base CX k f fd ps sp) (hr : Room (k + 1) X.A) (hg : Gl X x) (hm : X.mg x = some (.ref C)) (hb : Binds X.K fd ps []) (hx : ∀ σ, PassesAt CX X σ (E σ))
    (ha : PA X (e :: es) t) (hdb : (x == ("__debug__" : Str)) = false := by decide)
    (he : starEach (e :: es) X.env = (false, eval e X.env) :: starEach es X.env := by rfl)
    (hpl : (backTo pos (starEach es X.env)).any (·.1) = false := by rfl) :
    PE X (.Call (.Name x p) (e :: es) [] pos) (tMakeS C sp E t) := by
  constructor
  intro pins s σ H Q I h
  refine wpAny_Call_Name_kw (ld_glob I hg hm ?_ hdb)
  refine PySem.W.callWith_K (h₀ := X.base) I.ok.mod.kin M.kp (thn (ha.run pos pins s σ H _ I h) ?_) he hpl
  rintro us s1 ⟨vs, H1, I1, r, q⟩
  refine ⟨I1.kIn, ?_⟩
  have hq := q (s1.heap.objs.size + 1) s1.heap.objs.size (I1.hok.fresh (Nat.le_succ _)) (I1.hok.fresh (Nat.le_refl _)) (Nat.ne_of_lt (Nat.lt_succ_self _))
  have I2 := Inv.made (C := C) I1
  have r2 : Vals (V.ref (s1.heap.objs.size + 1) :: vs) (Value.ref (s1.heap.objs.size + 1) :: us) := .cons rfl r
  have hl : (Value.ref (s1.heap.objs.size + 1) :: us).length = ps.length := by
    rw [← r2.length]
    exact F.len _ _ _ _ hq
  have bd := hb _ (Value.ref (s1.heap.objs.size + 1) :: us) I2.kIn (by rw [List.append_nil]; exact hl)
  rw [List.append_nil] at bd
  have run := F.run _ X.stack _ _ ⟨Value.ref (s1.heap.objs.size + 1) :: us, []⟩ (Value.ref (s1.heap.objs.size + 1) :: us) _ _ (E σ) (hr.make C us []) (I2.env0.make C us []) bd r2 hq
  refine wpAny_call (make_map (f := f) I1.kIn M.makes M.init (beq_iff_eq.mp M.fn) (codeAny_mono run ?_))
  intro r s' hq'
  rcases r with er | fl
  · exact hx σ pins _ _ er s' I2 hq'
  · cases fl with
    | ret u =>
      obtain ⟨v, H', I3, rv, ev, q3⟩ := I2.after hq'
      subst ev
      exact ⟨rv, V.ref (s1.heap.objs.size + 1), H', I3, rfl, q3⟩
    | next => exact hq'.elim
    | brk => exact hq'.elim
    | cont => exact hq'.elim
end
/-! ### == by the text's own __eq__ -/
def rEqOwn (C : Addr) (sp : Sp) (E : XK) : R2 := fun x y H Q => ∃ a b dx fs, x = .ref a ∧ y = .ref b ∧ H a = some (.ins C dx fs) ∧ ((∃ dy gs, H b = some (.ins C dy gs)) ∨ ∃ ys, H b = some (.tup ys)) ∧ sp [x, y] H (fun v H' => (∃ c, v = .bl c) ∧ Q v H') E
theorem op_eqOwn {X : Cx} {CX : CXT} {n : Nat} {C f : Addr} {fd : FuncData} {ps : List Str} {sp : Sp} {E : XK} (F : FnOk X.prog X.w X.K X.mg X.base CX n f fd ps sp)
    (hs : PySem.W.findIn X.K (.ref C) "__eq__" = some (some (.ref f))) (hf : PySem.W.isFn X.K (.ref f) = true) (hb : Binds X.K fd ps []) (hx : Passes CX X E) (hr : Room n X.A)
    (hn : PySem.W.notFirst X.K C (.type "tuple") = true) : OpR X (compareOp .Eq) (rEqOwn C sp E) := by
  intro pins s σ H x y v u Q I rx ry ⟨a, b, dx, fs, ex, ey, ha, hy, q⟩
  subst ex
  subst ey
  obtain rfl : v = Value.ref a := rx
  obtain rfl : u = Value.ref b := ry
  show wpAny (model X.prog X.w) X.A (richCompare .Eq (.ref a) (.ref b)) (EP X pins σ Q) X.xe s
  obtain ⟨mA, J, _⟩ := ins_get I.hok ha
  obtain ⟨od, J, _⟩ := J.look
  obtain ⟨m, hF⟩ := I.fr
  have r2 : Vals [V.ref a, V.ref b] [Value.ref a, Value.ref b] := .cons rfl (.cons rfl .nil)
  have fin : wpAny (model X.prog X.w) X.A (call (.ref f) [.ref a, .ref b]) (PySem.W.CmpBack (EP X pins σ Q)) X.xe s := by
    refine wpAny_mono (run_fn (dvs := []) (ds := []) (us := [.ref a, .ref b]) (vs := [.ref a, .ref b]) F hr hb .nil hx I r2 q) ?_ fun _ _ z => z
    rintro w s' ⟨z, H', I', rz, ⟨c, rfl⟩, qz⟩
    obtain rfl : w = Value.bool c := rz
    exact ⟨V.bl c, H', I', rfl, qz⟩
  rcases hy with ⟨dy, gs, hb'⟩ | ⟨ys, hb'⟩
  · obtain ⟨mB, J', _⟩ := ins_get I.hok hb'
    obtain ⟨od', J', _⟩ := J'.look
    exact PySem.W.cmp_K (op := .Eq) (tb := .ref C) hr.units0 hF I.ok.mod.kin J J'.type (by simp [PySem.W.notFirst]) hs hf fin
  · obtain ⟨its, rv, ⟨o, h1, h2, _⟩, _⟩ := I.tuple (SqT.of hb')
    have LT : PySem.W.Looks (model X.prog X.w) s.heap (typeOf (.ref b)) (.type "tuple") := fun A Q E s k q => wpAny_typeOf_ref (k _ _ h1) (by rw [h2]; exact q)
    exact PySem.W.cmp_K (op := .Eq) (tb := .type "tuple") hr.units0 hF I.ok.mod.kin J LT hn hs hf fin
/-! ### == of data -/
theorem eqv_ints : ∀ ns ms : List Int, PyData.eqvAll (ns.map PyData.int) (ms.map PyData.int) = decide (ns = ms)
  | [], [] => by simp [PyData.eqvAll]
  | [], m :: ms => by simp [PyData.eqvAll]
  | n :: ns, [] => by simp [PyData.eqvAll]
  | n :: ns, m :: ms => by
    have ih := eqv_ints ns ms
    simp only [List.map_cons, PyData.eqvAll, PyData.eqv, ih]
    by_cases h : n = m
    · by_cases h2 : ns = ms
      · simp [h, h2]
      · simp [h, h2]
    · simp [h]
theorem dp_ints {K : PySem.W.Frag} {H : Hp} : ∀ ns : List Int, DpAll K H (ns.map V.int) (ns.map PyData.int)
  | [] => .nil
  | n :: ns => .cons (.int n) (dp_ints ns)
theorem ints_lay : ∀ ns : List Int, PyData.canLayAll0 (ns.map PyData.int) = true
  | [] => by simp [PyData.canLayAll0]
  | n :: ns => by
    have ih := ints_lay ns
    simp only [List.map_cons, PyData.canLayAll0, ih, PyData.canLay0, Bool.and_self]
theorem ints_depth : ∀ ns : List Int, PyData.depthAll (ns.map PyData.int) ≤ 1
  | [] => by simp [PyData.depthAll]
  | n :: ns => by
    have ih := ints_depth ns
    simp only [List.map_cons, PyData.depthAll, PyData.depth]
    omega
theorem shaped_li (ns : List Int) : SeqAt.shaped (.list (ns.map PyData.int)) = true := by
  have h := ints_depth ns
  show (PyData.canLay0 (.list (ns.map PyData.int)) && decide (PyData.depth (.list (ns.map PyData.int)) ≤ 64)) = true
  rw [Bool.and_eq_true]
  refine ⟨by simp only [PyData.canLay0]; exact ints_lay ns, decide_eq_true ?_⟩
  simp only [PyData.depth]
  omega
theorem shaped_ti (ns : List Int) : SeqAt.shaped (.tuple (ns.map PyData.int)) = true := by
  have h := ints_depth ns
  show (PyData.canLay0 (.tuple (ns.map PyData.int)) && decide (PyData.depth (.tuple (ns.map PyData.int)) ≤ 64)) = true
  rw [Bool.and_eq_true]
  refine ⟨by simp only [PyData.canLay0]; exact ints_lay ns, decide_eq_true ?_⟩
  simp only [PyData.depth]
  omega
theorem eqv_li (ns ms : List Int) : PyData.eqv (.list (ns.map PyData.int)) (.list (ms.map PyData.int)) = decide (ns = ms) := by
  simp only [PyData.eqv]
  exact eqv_ints ns ms
theorem eqv_ti (ns ms : List Int) : PyData.eqv (.tuple (ns.map PyData.int)) (.tuple (ms.map PyData.int)) = decide (ns = ms) := by
  simp only [PyData.eqv]
  exact eqv_ints ns ms
end J

set_option Elab.async false
set_option linter.all false
set_option maxRecDepth 100000
set_option maxHeartbeats 4000000
namespace J
open PySem PySem.Spec PyProof.Rows L2
/-! ### backs that are drawn: the mathematics -/
structure BI (m : Nat) (ns ls : List Int) : Prop where
  len : ns.length = m
  rng : ∀ n ∈ ns, 0 ≤ n ∧ n < (m : Nat)
  inv : ∀ (k : Nat) (b : Int), ns[k]? = some b → ns[b.toNat]? = some (k : Int)
  nd : ls.Nodup
  fx : ∀ z ∈ ls, 0 ≤ z ∧ z < (m : Nat) ∧ ns[z.toNat]? = some z
theorem map_erase {α β : Type} (f : α → β) : ∀ (l : List α) (k : Nat), (l.map f).eraseIdx k = (l.eraseIdx k).map f
  | [], _ => rfl
  | a :: l, 0 => rfl
  | a :: l, k + 1 => by
    show f a :: (l.map f).eraseIdx k = f a :: (l.eraseIdx k).map f
    rw [map_erase f l k]
theorem erase_mem {l : List Int} (nd : l.Nodup) {i : Nat} {a z : Int} (ha : l[i]? = some a) (hz : z ∈ l.eraseIdx i) : z ∈ l ∧ z ≠ a := by
  obtain ⟨j, hj, e⟩ := List.mem_eraseIdx_iff_getElem?.mp hz
  refine ⟨List.mem_of_getElem? e, fun q => hj ?_⟩
  subst q
  exact nd_ix nd e ha
theorem BI.step {m : Nat} {ns ls : List Int} (B : BI m ns ls) {i j : Nat} {a b : Int} (ha : ls[i]? = some a) (hb : (ls.eraseIdx i)[j]? = some b) : BI m ((ns.set a.toNat b).set b.toNat a) ((ls.eraseIdx i).eraseIdx j) := by
  have nd1 : (ls.eraseIdx i).Nodup := B.nd.sublist (List.eraseIdx_sublist ls i)
  obtain ⟨mb, nab⟩ := erase_mem B.nd ha (List.mem_of_getElem? hb)
  have ma := List.mem_of_getElem? ha
  obtain ⟨a0, a1, af⟩ := B.fx a ma
  obtain ⟨b0, b1, bf⟩ := B.fx b mb
  have nt : b.toNat ≠ a.toNat := by omega
  have la : a.toNat < ns.length := by rw [B.len]; omega
  have lb : b.toNat < ns.length := by rw [B.len]; omega
  have get : ∀ k : Nat, ((ns.set a.toNat b).set b.toNat a)[k]? = if b.toNat = k then some a else if a.toNat = k then some b else ns[k]? := fun k => by
    rw [List.getElem?_set]
    split
    · rw [List.length_set, if_pos (by omega)]
    · rw [List.getElem?_set]
      split
      · first
          | rfl
          | rw [if_pos (by omega)]
      · rfl
  refine ⟨by rw [List.length_set, List.length_set]; exact B.len, fun n hn => ?_, fun k c hc => ?_, nd1.sublist (List.eraseIdx_sublist _ j), fun z hz => ?_⟩
  · rcases List.mem_or_eq_of_mem_set hn with hn | rfl
    · rcases List.mem_or_eq_of_mem_set hn with hn | rfl
      · exact B.rng n hn
      · exact ⟨b0, b1⟩
    · exact ⟨a0, a1⟩
  · rw [get] at hc
    split at hc
    · rename_i e
      obtain rfl := Option.some.inj hc
      rw [get, if_neg nt, if_pos rfl]
      congr 1
      omega
    · rename_i e1
      split at hc
      · rename_i e2
        obtain rfl := Option.some.inj hc
        rw [get, if_pos rfl]
        congr 1
        omega
      · rename_i e2
        have q := B.inv k c hc
        rw [get, if_neg, if_neg]
        · exact q
        · intro e
          rw [← e, af] at q
          have := Option.some.inj q
          omega
        · intro e
          rw [← e, bf] at q
          have := Option.some.inj q
          omega
  · obtain ⟨z1, zb⟩ := erase_mem nd1 hb hz
    obtain ⟨z2, za⟩ := erase_mem B.nd ha z1
    obtain ⟨c0, c1, cf⟩ := B.fx z z2
    refine ⟨c0, c1, ?_⟩
    rw [get, if_neg (by omega), if_neg (by omega)]
    exact cf
def idI (m : Nat) : List Int := (List.range m).map fun i => ((i : Nat) : Int)
theorem idI_at {m k : Nat} {b : Int} (h : (idI m)[k]? = some b) : b = k ∧ k < m := by
  unfold idI at h
  rw [List.getElem?_map] at h
  have hk : k < m := by
    have q := (List.getElem?_eq_some_iff.mp (by rw [← List.getElem?_map] at h; exact h)).1
    simpa using q
  rw [List.getElem?_range hk] at h
  exact ⟨(Option.some.inj h).symm, hk⟩
theorem idI_get {m k : Nat} (h : k < m) : (idI m)[k]? = some (k : Int) := by
  unfold idI
  rw [List.getElem?_map, List.getElem?_range h]
  rfl
theorem BI.start (m : Nat) : BI m (idI m) (idI m) := by
  have mem : ∀ n ∈ idI m, 0 ≤ n ∧ n < (m : Nat) := fun n hn => by
    obtain ⟨k, hk⟩ := List.getElem?_of_mem hn
    obtain ⟨rfl, h⟩ := idI_at hk
    omega
  refine ⟨by simp [idI], mem, fun k b hb => ?_, ?_, fun z hz => ?_⟩
  · obtain ⟨rfl, h⟩ := idI_at hb
    exact idI_get (by omega)
  · unfold idI
    exact List.Pairwise.map _ (fun a b (h : a ≠ b) => by omega) List.nodup_range
  · obtain ⟨h1, h2⟩ := mem z hz
    refine ⟨h1, h2, ?_⟩
    rw [idI_get (by omega)]
    congr 1
    omega
theorem rgV_id {m : Int} (h : 0 ≤ m) : rgV 0 m = (idI m.toNat).map V.int := by
  unfold rgV idI
  rw [List.map_map, show m - 0 = m by omega]
  refine List.map_congr_left fun i _ => ?_
  show V.int (0 + (i : Int)) = V.int (i : Int)
  rw [Int.zero_add]
theorem seq_at {i : Int} {n : Nat} (h0 : 0 ≤ i) (h : i < (n : Nat)) : seqIndex? i n = some i.toNat := by
  have h1 : ixN n i = some i.toNat := by
    unfold ixN
    rw [if_pos h0, if_pos h]
  exact (ixN_seq h1).1
theorem ixN_at {i : Int} {n : Nat} (h0 : 0 ≤ i) (h : i < (n : Nat)) : ixN n i = some i.toNat := by
  unfold ixN
  rw [if_pos h0, if_pos h]
abbrev s_Lbacks : Stmt := top 26
theorem sc_Lbacks : FnScope ["_law_hand_here", "_law_many", "_law_backs_here", "_law_left", "_law_k", "_law_one", "_law_other"] ["_law_hand_here", "_law_many"] (defScope s_Lbacks) := ⟨rfl, rfl, rfl, by decide +kernel, rfl, by decide +kernel, by decide +kernel⟩
def spBacks : Sp := fun vs H Q _ => ∃ (h q : Addr) (m : Int), vs = [.ref h, .int m] ∧ 2 ≤ m ∧ m ≤ 4 ∧ Hand H h q ∧ ∀ (ns : List Int) (p : Addr) (H' : Hp), (ns.length : Nat) = m → GoodB ns → But h H H' → H p = none → H' p = some (.lst (ns.map V.int)) → Hand H' h q → Q (.ref p) H'
theorem Hand.h_ne {H : Hp} {h q p : Addr} (x : Hand H h q) (n : H p = none) : h ≠ p ∧ q ≠ p := by
  obtain ⟨cs, i, r, t, e1, e2, _⟩ := x
  exact ⟨ne_of_none e1 n, ne_of_none e2 n⟩
theorem But.put2 {h p : Addr} {H H' : Hp} {o : HO} (B : But h H H') (n : H p = none) : But h H (upd H' p o) := fun b u nb e => by
  rw [upd_ne (ne_of_none e n)]
  exact B b u nb e
section
variable {P : Program} {w : World} {K : PySem.W.Frag} {mg : Str → Option Value} {base : Heap}
theorem ok_Lbacks {f fD : Addr} {fd fdD : FuncData} (F : Fun K "_law_backs" "_law_backs" s_Lbacks f fd) (nli : mg "list" = none) (nl : mg "len" = none) (nr : mg "range" = none)
    (GD : Cal P w K mg base CX0 2 "_law_draw" fD fdD ["_law_hand_here", "_law_many"] spDraw) : FnOk P w K mg base CX0 3 f fd ["_law_hand_here", "_law_many"] spBacks := by
  refine F.ok sc_Lbacks (fun vs H Q E h => ?_) (fun cdv A outer s H vs Q E hr h => ?_)
  · obtain ⟨h, q, m, rfl, _⟩ := h
    rfl
  · obtain ⟨h, q, m, rfl, m2, m4, hh, k⟩ := h
    refine ⟨_, (pss_cons 
  (ps_set (i := 2) sc_Lbacks.nd rfl (Or.inl rfl) (pe_listRg rfl (by rfl) nli (prg_1 (by rfl) nr (pv 1)))) (pss_cons 
  (ps_set (i := 3) sc_Lbacks.nd rfl (Or.inl rfl) (pe_listRg rfl (by rfl) nli (prg_1 (by rfl) nr (pv 1)))) (pss_cons 
  (ps_for PassesOwn.never rfl (pi_range1 (by rfl) nr (pa_cons (pe_op op_fdiv (pv 1) pe_int) pa_nil)) (pg_name (i := 4) sc_Lbacks.nd rfl (Or.inl rfl)) (pss_one 
    (ps_if (pt_cmpR op_eq (pcal GD hr pass0 (pa_cons (pv 0) (pa_cons pe_int pa_nil))) pe_int (nomark _)) (pss_cons 
      (ps_set (i := 5) sc_Lbacks.nd rfl (Or.inl rfl) (pe_bm PySem.F.plainAttrs_list PySem.F.slot_list_pop PySem.F.type_list_pop mt_popAt (pv 3) (pa_cons (pcal GD hr pass0 (pa_cons (pv 0) (pa_cons (pe_callB call_len_seq (by rfl) nl PySem.boot_len (pa_cons (pv 3) pa_nil)) pa_nil))) pa_nil))) (pss_cons 
      (ps_set (i := 6) sc_Lbacks.nd rfl (Or.inl rfl) (pe_bm PySem.F.plainAttrs_list PySem.F.slot_list_pop PySem.F.type_list_pop mt_popAt (pv 3) (pa_cons (pcal GD hr pass0 (pa_cons (pv 0) (pa_cons (pe_callB call_len_seq (by rfl) nl PySem.boot_len (pa_cons (pv 3) pa_nil)) pa_nil))) pa_nil))) (pss_cons 
      (ps_asg (pv 6) (pg_sub (pv 2) (pv 5) set_list)) (pss_one 
      (ps_asg (pv 5) (pg_sub (pv 2) (pv 6) set_list)))))) pss_nil))) (pss_one 
  (ps_ret (pv 2)))))), ?_⟩
    have rg : RgOk 0 m := RgOk.of_le (by omega) (by omega) (by omega) (by omega)
    refine ⟨_, rfl, m, rfl, rg, fun p hp => ?_⟩
    refine ⟨_, rfl, m, rfl, rg, fun l hl => ?_⟩
    rw [rgV_id (by omega)]
    rw [rgV_id (by omega)] at hl
    have npl : p ≠ l := ne_of_none upd_same hl
    have hl0 : H l = none := by
      rw [upd_ne npl.symm] at hl
      exact hl
    obtain ⟨nhp, nqp⟩ := hh.h_ne hp
    obtain ⟨nhl, nql⟩ := hh.h_ne hl0
    refine ⟨_, rfl, _, _, rfl, rfl, ⟨by decide, by decide⟩, _, rfl, by omega, by omega, for_range (lo := 0) (n := (m / 2).toNat) (fun i σ H' => ∃ (ns ls : List Int) (v4 v5 v6 : Option V), σ = [some (.ref h), some (.int m), some (.ref p), some (.ref l), v4, v5, v6] ∧
        BI m.toNat ns ls ∧ m.toNat ≤ ls.length + 2 * i ∧ ls.length ≤ m.toNat ∧ But h H H' ∧ Hand H' h q ∧ H' p = some (.lst (ns.map V.int)) ∧ H' l = some (.lst (ls.map V.int)))
      ⟨idI m.toNat, idI m.toNat, none, none, none, rfl, BI.start _, by simp [idI], by simp [idI], ((But.refl h H).put2 hp).put2 hl0, (hh.put nhp nqp).put nhl nql, by rw [upd_ne npl, upd_same], upd_same⟩ ?_ ?_⟩
    · rintro i σ H1 hi ⟨ns, ls, v4, v5, v6, rfl, B, hc, lsm, b1, h1, ep, el⟩
      have hls : 2 ≤ ls.length := by omega
      refine ⟨_, rfl, h, q, 3, rfl, by decide, by decide, h1, fun v H2 v0 v3 b2 h2 => ⟨rfl, _, rfl, ?_⟩⟩
      refine ifD (fun c => ?_) (fun c => ⟨ns, ls, _, _, _, rfl, B, by omega, lsm, b1.trans b2, h2, b2 _ _ nhp.symm ep, b2 _ _ nhl.symm el⟩)
      have ep2 := b2 _ _ nhp.symm ep
      have el2 := b2 _ _ nhl.symm el
      have lml : (ls.map V.int).length = ls.length := List.length_map _
      refine ⟨_, rfl, .inl ⟨rfl, _, SqL.of el2⟩, _, rfl, _, rfl, l, _, rfl, .inl (SqL.of el2), h, q, _, rfl, by omega, by omega, h2, fun a H3 a0 a1 b3 h3 => ?_⟩
      have ep3 := b3 _ _ nhp.symm ep2
      have el3 := b3 _ _ nhl.symm el2
      rw [lml] at a1
      have hla : a.toNat < ls.length := by omega
      have hA : ls[a.toNat]? = some ls[a.toNat] := List.getElem?_eq_getElem hla
      generalize ls[a.toNat] = x at hA
      refine ⟨l, _, a, a.toNat, .int x, rfl, rfl, el3, by omega, by omega, seq_at a0 (by omega), ints_at hA, ?_⟩
      rw [map_erase]
      have e1 : (upd H3 l (.lst ((ls.eraseIdx a.toNat).map V.int))) l = some (.lst ((ls.eraseIdx a.toNat).map V.int)) := upd_same
      have ep4 : (upd H3 l (.lst ((ls.eraseIdx a.toNat).map V.int))) p = some (.lst (ns.map V.int)) := by rw [upd_ne npl]; exact ep3
      have h4 : Hand (upd H3 l (.lst ((ls.eraseIdx a.toNat).map V.int))) h q := h3.put nhl nql
      have b4 : But h H (upd H3 l (.lst ((ls.eraseIdx a.toNat).map V.int))) := ((b1.trans b2).trans b3).put2 hl0
      have le : (ls.eraseIdx a.toNat).length = ls.length - 1 := by rw [List.length_eraseIdx, if_pos hla]
      have lml2 : ((ls.eraseIdx a.toNat).map V.int).length = ls.length - 1 := by rw [List.length_map, le]
      generalize upd H3 l (.lst ((ls.eraseIdx a.toNat).map V.int)) = H4 at e1 ep4 h4 b4
      refine ⟨_, rfl, .inl ⟨rfl, _, SqL.of e1⟩, _, rfl, _, rfl, l, _, rfl, .inl (SqL.of e1), h, q, _, rfl, by omega, by omega, h4, fun b H5 b0' b1' b5 h5 => ?_⟩
      have ep5 := b5 _ _ nhp.symm ep4
      have el5 := b5 _ _ nhl.symm e1
      rw [lml2] at b1'
      have hlb : b.toNat < (ls.eraseIdx a.toNat).length := by omega
      have hB : (ls.eraseIdx a.toNat)[b.toNat]? = some (ls.eraseIdx a.toNat)[b.toNat] := List.getElem?_eq_getElem hlb
      generalize (ls.eraseIdx a.toNat)[b.toNat] = y at hB
      refine ⟨l, _, b, b.toNat, .int y, rfl, rfl, el5, by omega, by omega, seq_at b0' (by omega), ints_at hB, ?_⟩
      rw [map_erase]
      have B2 := B.step hA hB
      obtain ⟨x0, x1, _⟩ := B.fx x (List.mem_of_getElem? hA)
      obtain ⟨y0, y1, _⟩ := B.fx y (erase_mem B.nd hA (List.mem_of_getElem? hB)).1
      have lns := B.len
      have ep6 : (upd H5 l (.lst (((ls.eraseIdx a.toNat).eraseIdx b.toNat).map V.int))) p = some (.lst (ns.map V.int)) := by rw [upd_ne npl]; exact ep5
      refine ⟨_, rfl, _, rfl, _, rfl, p, _, _, x.toNat, rfl, rfl, ep6, ixN_at x0 (by rw [List.length_map]; omega), ?_⟩
      refine ⟨_, rfl, _, rfl, _, rfl, p, _, _, y.toNat, rfl, rfl, upd_same, ixN_at y0 (by rw [List.length_set, List.length_map]; omega), ?_⟩
      refine ⟨_, _, _, _, _, rfl, B2, ?_, ?_, ?_, ?_, ?_, ?_⟩
      · rw [List.length_eraseIdx, if_pos hlb, le]
        omega
      · rw [List.length_eraseIdx, if_pos hlb, le]
        omega
      · exact (((b4.trans b5).put2 hl0).put2 hp).put2 hp
      · exact (((h5.put nhl nql).put nhp nqp).put nhp nqp)
      · rw [upd_same, List.map_set, List.map_set]
      · rw [upd_ne npl.symm, upd_ne npl.symm, upd_same]
    · rintro σ H1 ⟨ns, ls, v4, v5, v6, rfl, B, hc, lsm, b1, h1, ep, el⟩
      have lns := B.len
      refine ⟨_, rfl, k ns p H1 (by omega) ⟨by omega, by omega, fun n hn => ?_, B.inv⟩ b1 hp ep h1⟩
      have := B.rng n hn
      omega
end
end J

set_option Elab.async false
set_option linter.all false
set_option maxRecDepth 100000
set_option maxHeartbeats 2000000
/-! enumerate over a tuple -/
namespace PySem
open Sem (wp)
open AutoSeq1 (wpAny_loadPart')
abbrev enumO (h : Heap) : Obj := { cls := .type "enumerate", data := .fields #[.none, .bool false, .ref h.objs.size, rawInt 0, .none, .none] }
theorem jMeetsEnum {v : Value} {o : Obj} {H0 : Heap → Prop} (B : Begins v o H0) :
    Meets (Builtin.«enumerate.__new__» ⟨[.type "enumerate", v], []⟩) (fun _ R s => H0 s.heap ∧ R (.ok (.ret (.ref (s.heap.push o).objs.size))) { s with heap := (s.heap.push o).push (enumO s.heap) }) := .of_wp fun prog w A R s h => by
  obtain ⟨hp, g, d, tk, os⟩ := s
  obtain ⟨h1, h⟩ := h
  have hsub := sub_enumerate
  have q1 : ∀ {A' : Around} {E : Value → Shared → Prop} {Q : Value → Shared → Prop}, Q (.ref hp.objs.size) ⟨hp.push o, g, d, tk, os⟩ → wpAny (model prog w) A' (pyIter v) Q E ⟨hp, g, d, tk, os⟩ := fun q => B.iter prog w _ _ ⟨hp, g, d, tk, os⟩ _ h1 q
  wp_walk
  refine wpAny_stack_any fun st => wpAny_pure ?_
  split
  · rename_i c _ _ _ _ _
    cases (c == Value.type "enumerate")
    · wp_walk using q1
      exact ⟨_, rfl, h⟩
    · wp_walk using q1
      exact ⟨_, rfl, h⟩
  · wp_walk using q1
    exact ⟨_, rfl, h⟩
theorem jEnumTup {prog : Program} {w : World} {A : Around} {E : Value → Shared → Prop} {s : Shared} {t : Addr} {items : Array Value} {Q : Value → Shared → Prop} (hT : s.heap.IsTuple t items)
    (h : ∀ h', IsEnum h' (s.heap.objs.size + 1) s.heap.objs.size 0 .none → h'.IsTupleIter s.heap.objs.size t 0 → (∀ b o, s.heap.get? b = some o → h'.get? b = some o) → Q (.ref (s.heap.objs.size + 1)) { s with heap := h' }) :
    wpAny (model prog w) A (call (.type "enumerate") [.ref t]) Q E s := by
  refine callType_new F.called_enumerate (by decide) (F.typeCall_enumerate_1 _) (F.newCall_enumerate_1 _) (fun obj => F.args_object_init_2 obj _) F.entry_enumerate_new (jMeetsEnum (begins_tuple t items)) ⟨hT, ?_⟩
  generalize eo : ({ cls := .type "tuple_iterator", data := .fields #[.ref t, .int 0 0] } : Obj) = o
  have hz : (s.heap.push o).objs.size = s.heap.objs.size + 1 := Heap.size_push ..
  show _ ∧ _
  rw [hz]
  have he : IsEnum ((s.heap.push o).push (enumO s.heap)) (s.heap.objs.size + 1) s.heap.objs.size 0 .none := by
    have q := Heap.get?_push_size (s.heap.push o) (o := enumO s.heap) rfl
    rw [hz] at q
    exact q
  refine ⟨⟨_, he, rfl⟩, h _ he ⟨o, Heap.get?_push_of_some _ (Heap.get?_push_size _ (by subst eo; rfl)), by subst eo; rfl, by subst eo; rfl⟩ fun b ob x => Heap.get?_push_of_some _ (Heap.get?_push_of_some _ x)⟩
end PySem
namespace J
open PySem PySem.Spec PyProof.Rows L2
/-- the tuple at a, its items in new pairs with their places -/
def Itet (K : PySem.W.Frag) (a : Addr) : It :=
  ⟨fun i H => ∃ (xs : List V) (x : V), SqT K H a xs ∧ xs[i]? = some x, fun i H v H' => ∃ T x, v = .ref T ∧ H T = none ∧ H' = upd H T (.tup [.int (i : Nat), x]) ∧ ∀ xs, SqT K H a xs → xs[i]? = some x, fun i H => ∃ xs : List V, SqT K H a xs ∧ xs.length = i⟩
theorem tup_apart {h : Heap} {a e it : Addr} {items : Array Value} {old : Value} {i : Nat} {c : Int} (ht : h.IsTuple a items) (he : IsEnum h e it c old) (hi : h.IsTupleIter it a i) : a ≠ it ∧ a ≠ e := by
  obtain ⟨o, ho, hc, _⟩ := ht
  obtain ⟨o2, ho2, hc2, _⟩ := hi
  refine ⟨fun q => ?_, fun q => ?_⟩
  · rw [q, ho2] at ho
    have := Option.some.inj ho
    subst this
    rw [hc2] at hc
    exact absurd hc (by decide)
  · have he' : h.get? e = _ := he
    rw [q, he'] at ho
    have := Option.some.inj ho
    subst this
    have hc2 : Value.type "enumerate" = Value.type "tuple" := hc
    injection hc2 with z
    exact absurd z (by decide)
theorem turn_enumT {P : Program} {w : World} {K : PySem.W.Frag} {elts : List Expr} {kk : Nat} {tpos : Pos} (a e it : Addr) :
    Turn P w K (.Tuple elts kk tpos) (Itet K a) [e, it] e (fun i h => (∃ old, IsEnum h e it ((i : Nat) : Int) old) ∧ h.IsTupleIter it a i ∧ e ≠ it) where
  mem := by simp
  obj := by
    rintro i h ⟨⟨old, he⟩, ⟨o, ho, hc, hd⟩, _⟩ b hb
    have e' : b = e ∨ b = it := by simpa using hb
    rcases e' with rfl | rfl
    · exact ⟨_, he, fun v q => nomatch q⟩
    · exact ⟨o, ho, fun v q => by rw [hd] at q; cases q⟩
  keep := by
    rintro i h h' ⟨⟨old, he⟩, ⟨o, ho, hr⟩, hne⟩ k
    exact ⟨⟨old, k e (by simp) _ he⟩, ⟨o, k it (by simp) _ ho, hr⟩, hne⟩
  item := by
    intro X hP hw hK hc i pins s σ H E I hf st hg
    subst hP hw hK
    obtain ⟨⟨old, he⟩, hit, hne⟩ := st
    obtain ⟨xs, x, hq, hx⟩ := hg
    obtain ⟨its, rv, p, hz⟩ := I.tuple hq
    obtain ⟨u, hu, ru⟩ := rv.get hx
    have ht : s.heap.IsTuple a its.toArray := p
    obtain ⟨n1, n2⟩ := tup_apart ht he hit
    have hel : e < s.heap.objs.size := Heap.lt_size he
    have hil : it < s.heap.objs.size := by
      obtain ⟨_, q, _⟩ := hit
      exact Heap.lt_size q
    have hlt : i < its.toArray.size := by
      have q := (List.getElem?_eq_some_iff.mp hu).1
      simpa using q
    have D := Draws.tuple (prog := X.prog) (w := X.w) (A := X.A.in1) (I.ok.hd hc) it a n1 its.toArray
    have nin : e ∉ [it, a] := by
      simp only [List.mem_cons, List.not_mem_nil, or_false, not_or]
      exact ⟨hne, fun q => n2 q.symm⟩
    refine wpAny_pyNext_enum_itemD D he ⟨hit, ht⟩ hlt hne nin ?_
    intro u2 h' tk hP ho hst hT hsz hk
    obtain rfl : u = u2 := by
      have q : its.toArray[i]? = some u2 := hP
      have q2 : its.toArray[i]? = some u := by simpa using hu
      rw [q2] at q
      exact Option.some.inj q
    refine ⟨_, rfl, wpAny_letOwnedTupleGo_enum (s := { s with heap := h', toks := tk + 1 }) ho ?_⟩
    intro h2 he2 sb
    have hT2 : h2.get? s.heap.objs.size = some { cls := .type "tuple", data := .seq #[.int i tk, u] } := (sb.2 _ (Nat.ne_of_gt hel)).trans hT
    have new : ObjOk X.prog X.w (upd H s.heap.objs.size (.tup [.int (i : Nat), x])) h2 s.heap.objs.size (.tup [.int (i : Nat), x]) :=
      ⟨by show 2 ≤ sizeLine; decide, [.int i tk, u], .cons ⟨_, rfl⟩ (.cons ru .nil), ⟨_, hT2, rfl, _, rfl⟩⟩
    have kept : ∀ (b : Addr) (ob : Obj), b ∉ [e, it] → s.heap.get? b = some ob → h2.get? b = some ob := fun b ob hb q => by
      have b1 : b ≠ e := fun z => hb (by simp [z])
      have b2 : b ≠ it := fun z => hb (by simp [z])
      exact (sb.2 b b1).trans (hk b ob b1 b2 q)
    have I1 : Inv X pins σ (upd H s.heap.objs.size (.tup [.int (i : Nat), x])) { s with heap := h2, toks := tk + 1 } := I.turnedNew (ch := [e, it]) kept hf (Nat.le_refl _) new
    refine ⟨.ref s.heap.objs.size, _, I1, rfl, ⟨_, x, rfl, I.hok.fresh (Nat.le_refl _), rfl, fun ys hy => by rw [I.tuple_inj hy hq]; exact hx⟩, ⟨⟨u, ?_⟩, hst.1.at fun o q => (sb.2 it (Ne.symm hne)).trans q, hne⟩, fun b hb => ?_⟩
    · have e1 : ((i + 1 : Nat) : Int) = (i : Int) + 1 := by omega
      rw [e1]
      exact he2
    · have hb' : b < s.heap.objs.size := by
        have e' : b = e ∨ b = it := by simpa using hb
        rcases e' with z | z
        · rw [z]
          exact hel
        · rw [z]
          exact hil
      rw [upd_ne (Nat.ne_of_lt hb')]
      exact (hf b hb).1
  done := by
    intro X hP hw hK hc i pins s σ H E I hf st hg
    subst hP hw hK
    obtain ⟨⟨old, he⟩, hit, hne⟩ := st
    obtain ⟨xs, hq, hx⟩ := hg
    obtain ⟨its, rv, p, hz⟩ := I.tuple hq
    have ht : s.heap.IsTuple a its.toArray := p
    obtain ⟨n1, n2⟩ := tup_apart ht he hit
    obtain ⟨f0, f1, f2, f3, f4, f5⟩ := hf it (by simp)
    have D := Draws.tuple (prog := X.prog) (w := X.w) (A := X.A.in1) (I.ok.hd hc) it a n1 its.toArray
    have hn : its.toArray.size = i := by
      have hl := rv.length
      simp
      omega
    refine wpAny_pyNext_enum_endD D he ⟨by rw [hn]; exact hit, ht⟩ ?_
    intro h' eb
    exact ⟨rfl, I.turned (t' := s.toks) (fun b o hb q => eb b o hb q) f0 f1 f3 f4 f5⟩
  self := fun A i s Q E ⟨⟨_, he⟩, _⟩ h => wpAny_pyIter_enum he h
def iEnumT (K : PySem.W.Frag) (ta : TA) : TI := fun σ H R => ta σ H fun vs H1 => ∃ a xs, vs = [.ref a] ∧ SqT K H1 a xs ∧ R (Itet K a) H1
theorem pi_enumT {X : Cx} {e : Expr} {ta : TA} {p pos tpos : Pos} {elts : List Expr} {kk : Nat} (hg : Gl X "enumerate") (hm : X.mg "enumerate" = none) (ha : PA X [e] ta)
    (hs : starEach [e] X.env = [(false, eval e X.env)] := by rfl) : PI X (.Tuple elts kk tpos) (.Call (.Name "enumerate" p) [e] [] pos) (iEnumT X.K ta) := by
  constructor
  intro pins s σ H R I h
  refine Call_ (ld_blt I hg hm boot_enumerate (PyProof.Rows.callWith_type1 (thn (ha.run pos pins s σ H _ I h) ?_) hs rfl))
  rintro us s1 ⟨vs, H1, I1, r1, a, xs, ex, hq, q⟩
  subst ex
  cases r1 with
  | cons r rr =>
    cases rr
    cases r
    obtain ⟨its, rv, p', hz⟩ := I1.tuple hq
    refine jEnumTup (items := its.toArray) p' ?_
    intro h' he hit hk
    refine wpAny_pyIter_enum he ?_
    have I2 : Inv X pins σ H1 { s1 with heap := h' } := I1.kept (t' := s1.toks) hk
    refine ⟨s1.heap.objs.size + 1, [s1.heap.objs.size + 1, s1.heap.objs.size], _, _, H1, rfl, I2, turn_enumT a (s1.heap.objs.size + 1) s1.heap.objs.size, ⟨⟨.none, he⟩, hit, Nat.succ_ne_self _⟩, ?_, q⟩
    intro b hb
    have e' : b = s1.heap.objs.size + 1 ∨ b = s1.heap.objs.size := by simpa using hb
    have hle : s1.heap.objs.size ≤ b := by
      rcases e' with z | z
      · rw [z]
        exact Nat.le_succ _
      · rw [z]
        exact Nat.le_refl _
    exact I1.fpOk hle (I1.hok.fresh hle)
theorem for_enumT {K : PySem.W.Frag} {a : Addr} {xs : List V} {g : TG} {tb : TS} {D : Ends} {σ : L2.St} {H : Hp} (Pv : Nat → L2.St → Hp → Prop) (h0 : Pv 0 σ H) (hl : ∀ i σ H, i ≤ xs.length → Pv i σ H → SqT K H a xs)
    (hs : ∀ i x σ H T, xs[i]? = some x → Pv i σ H → H T = none → g (.ref T) σ (upd H T (.tup [.int (i : Nat), x])) fun σ2 H2 => tb { D with nx := Pv (i + 1), ct := Pv (i + 1), bk := D.nx } σ2 H2) (hd : ∀ σ H, Pv xs.length σ H → D.nx σ H) :
    ∃ W : Nat → Nat → L2.St → Hp → Prop, (∃ m, W 0 m σ H) ∧ ∀ i m σ H, W i m σ H →
      ((Itet K a).stop i H ∧ D.nx σ H) ∨ ((Itet K a).go i H ∧ ∃ N : L2.St → Hp → Prop, (∀ σ' H', N σ' H' → ∃ m', m' < m ∧ W (i + 1) m' σ' H') ∧ ∀ x H', (Itet K a).yld i H x H' → g x σ H' fun σ2 H2 => tb { D with nx := N, ct := N, bk := D.nx } σ2 H2) := by
  refine ⟨fun i m s h => m + i = xs.length ∧ Pv i s h, ⟨xs.length, rfl, h0⟩, ?_⟩
  rintro i m σ H ⟨em, p⟩
  have hi : i ≤ xs.length := by omega
  have q := hl i σ H hi p
  rcases Nat.lt_or_ge i xs.length with hlt | hge
  · refine .inr ⟨⟨xs, xs[i], q, by simp [hlt]⟩, Pv (i + 1), fun σ' H' p' => ⟨m - 1, by omega, by omega, p'⟩, ?_⟩
    rintro x H' ⟨T, y, rfl, hT, rfl, hy⟩
    exact hs i y σ H T (hy xs q) p hT
  · have e : i = xs.length := by omega
    subst e
    exact .inl ⟨⟨xs, q, rfl⟩, hd σ H p⟩
end J

set_option Elab.async false
set_option linter.all false
set_option maxRecDepth 100000
set_option maxHeartbeats 4000000
namespace J
open PySem PySem.Spec PyProof.Rows L2
/-! ### an own error with two fields -/
def spXI2 (C : Addr) (f g : Str) : Sp := fun vs H Q _ => ∃ (a : Addr) (v u : V), vs = [.ref a, v, u] ∧ H a = some (exo a C none) ∧ ∀ dx, H dx = none → dx ≠ a → Q .non (upd (upd (upd H dx (exd dx [(f, v)])) a (exo a C (some dx))) dx (exd dx [(g, u), (f, v)]))
structure Ex2 (P : Program) (w : World) (K : PySem.W.Frag) (mg : Str → Option Value) (base : Heap) (x f g : Str) (C fI : Addr) (fd : FuncData) (ps : List Str) : Prop where
  o : OexC K C
  i : PySem.W.findIn K (.ref C) "__init__" = some (some (.ref fI))
  t : PySem.W.typeIn K (.ref fI) = some (.type "function")
  F : FnOk P w K mg base CX0 1 fI fd ps (spXI2 C f g)
  b : Binds K fd ps []
  m : mg x = some (.ref C)
  xf : XfC K C
  no1 : PySem.W.findIn K (.ref C) f = some none
  no2 : PySem.W.findIn K (.ref C) g = some none
  te : PySem.W.exmOne K (.ref C) (.ref C) = some true
def Tells2 (H : Hp) (C : Addr) (f g : Str) (v u : V) (E : XK) : Prop := ∀ d H', H d = none → Same H H' → H' d = some (.xd [(g, u), (f, v)]) → E (.ref C) (some d) H'
theorem Tells2.mono {H H1 : Hp} {C : Addr} {f g : Str} {v u : V} {E : XK} (h : Tells2 H C f g v u E) (S : Same H H1) : Tells2 H1 C f g v u E := fun d H' n S1 e => h d H' (S.free n) (S.trans S1) e
theorem mkO_of2 {C : Addr} {f g : Str} {v u : V} {H : Hp} {Q : XK} (h : Tells2 H C f g v u Q) : [v, u].length ≤ 1000 ∧ ∀ a, H a = none → spXI2 C f g (.ref a :: ([v, u] ++ [])) (upd H a (exo a C none))
    (fun z H2 => z = .non ∧ ∃ (d : Addr) (fs : List (Str × V)), H2 a = some (exo a C (some d)) ∧ H2 d = some (exd d fs) ∧ H d = none ∧ Q (.ref C) (some d) (upd (del H2 a) d (.xd fs))) (fun _ _ _ => False) := by
  refine ⟨(by show 2 ≤ 1000; decide), fun a ha => ⟨a, v, u, rfl, upd_same, fun dx hdx ne => ⟨rfl, dx, [(g, u), (f, v)], ?_, upd_same, ?_, ?_⟩⟩⟩
  · rw [upd_ne ne.symm, upd_same]
  · rw [upd_ne ne] at hdx
    exact hdx
  · rw [upd_ne ne] at hdx
    refine h _ _ hdx (fun b o e => ?_) upd_same
    have n1 := ne_of_none e hdx
    have n2 := ne_of_none e ha
    rw [upd_ne n1, del_ne n2, upd_ne n1, upd_ne n2, upd_ne n1, upd_ne n2]
    exact e
abbrev s_BadCompany_init : Stmt := inClass (top 5) 0
theorem sc_BadCompany_init : FnScope ["self", "index", "what"] ["self", "index", "what"] (defScope s_BadCompany_init) := ⟨rfl, rfl, rfl, by decide +kernel, rfl, by decide +kernel, by decide +kernel⟩
section
variable {P : Program} {w : World} {K : PySem.W.Frag} {mg : Str → Option Value} {base : Heap}
theorem ok_BadCompany_init {f C : Addr} {fd : FuncData} (F : Fun K "__init__" "BadCompany.__init__" s_BadCompany_init f fd) (o : OexC K C) (no1 : PySem.W.findIn K (.ref C) "index" = some none) (no2 : PySem.W.findIn K (.ref C) "what" = some none) :
    FnOk P w K mg base CX0 1 f fd ["self", "index", "what"] (spXI2 C "index" "what") := by
  refine F.ok sc_BadCompany_init (fun vs H Q E h => ?_) (fun cdv A outer s H vs Q E hr h => ?_)
  · obtain ⟨x, s, u, rfl, _⟩ := h
    rfl
  · obtain ⟨a, v, u, rfl, ha, k⟩ := h
    refine ⟨_, pss_cons (ps_ost (pv 0) (pv 1)) (pss_one (ps_ost (pv 0) (pv 2))), ?_⟩
    refine ⟨_, rfl, _, rfl, a, C, rfl, o, no1, .inl ⟨ha, fun dx hdx ne => ?_⟩⟩
    refine ⟨_, rfl, _, rfl, a, C, rfl, o, no2, .inr ⟨dx, [("index", v)], upd_same, by rw [upd_ne ne, upd_same], (by show 1 ≤ 900; decide), ?_⟩⟩
    exact k dx hdx ne
end
/-! ### a row is judged -/
def rowW (m n : Nat) (s : Sh) : Option Str :=
  if (s.isL || s.isT) = true then
    if (items s).length = n then
      if ∀ x ∈ items s, wholeB x 0 ((m : Nat) - 1) = true then none else some "tie"
    else some "length"
  else some "row"
theorem rowW_row {m n : Nat} {s : Sh} (h : (s.isL || s.isT) = false) : rowW m n s = some ("row" : Str) := by
  unfold rowW
  rw [if_neg (by simp [h])]
theorem rowW_length {m n : Nat} {s : Sh} (h : (s.isL || s.isT) = true) (h2 : (items s).length ≠ n) : rowW m n s = some ("length" : Str) := by
  unfold rowW
  rw [if_pos h, if_neg h2]
theorem rowW_tie {m n : Nat} {s : Sh} {x : V} (h : (s.isL || s.isT) = true) (h2 : (items s).length = n) (hx : x ∈ items s) (e : wholeB x 0 ((m : Nat) - 1) = false) : rowW m n s = some ("tie" : Str) := by
  unfold rowW
  rw [if_pos h, if_pos h2, if_neg]
  intro q
  rw [q x hx] at e
  cases e
theorem rowW_none {m n : Nat} {s : Sh} (h : (s.isL || s.isT) = true) (h2 : (items s).length = n) (ha : ∀ x ∈ items s, wholeB x 0 ((m : Nat) - 1) = true) : rowW m n s = none := by
  unfold rowW
  rw [if_pos h, if_pos h2, if_pos ha]
abbrev s_check_row : Stmt := top 20
theorem sc_check_row : FnScope ["ties", "index", "row", "length", "tie"] ["ties", "index", "row", "length"] (defScope s_check_row) := ⟨rfl, rfl, rfl, by decide +kernel, rfl, by decide +kernel, by decide +kernel⟩
def spRow (C CB : Addr) : Sp := fun vs H Q E => ∃ (t : Addr) (ns : List Int) (j n : Nat) (x : V) (s : Sh), vs = [.ref t, .int (j : Nat), x, .int (n : Nat)] ∧ TiesAt C H t ns ∧ Is H x s ∧ Known H (items s) ∧
  (∀ u, rowW ns.length n s = some u → Tells2 H CB "index" "what" (.int (j : Nat)) (.str u) E) ∧ (rowW ns.length n s = none → ∀ H', Same H H' → Q .non H')
section
variable {P : Program} {w : World} {K : PySem.W.Frag} {mg : Str → Option Value} {base : Heap}
theorem ok_check_row {f C CB fS fH fI : Addr} {fd fdS fdH fdI : FuncData} (F : Fun K "_check_row" "_check_row" s_check_row f fd) (T : TiC K C) (nl : mg "len" = none)
    (GS : Cal P w K mg base CX0 1 "is_sequence" fS fdS ["thing"] spSeq) (GH : Mt P w K mg base CX0 2 C "has" fH fdH ["self", "thing"] (spHas C)) (GB : Ex2 P w K mg base "BadCompany" "index" "what" CB fI fdI ["self", "index", "what"]) :
    FnOk P w K mg base (L2.CX P w) 3 f fd ["ties", "index", "row", "length"] (spRow C CB) := by
  refine F.okX sc_check_row (fun vs H Q E h => ?_) (fun cdv A outer s H vs Q E hr h => ?_)
  · obtain ⟨t, ns, j, n, x, s, rfl, _⟩ := h
    rfl
  · obtain ⟨t, ns, j, n, x, sh, rfl, hT, hx, kn, k1, k2⟩ := h
    have hr2 : Room 2 _ := hr
    cases sh with
    | sc u =>
      refine ⟨_, (pss_cons 
  (ps_if (pt_not (pt_val (pcal GS hr pass0 (pa_cons (pv 2) pa_nil)))) (pss_one (ps_raise rfl (takes_of rfl rfl rfl rfl) (pmk_oex GB.o GB.i GB.t GB.F hr2 GB.b .nil pass0 rfl GB.m (pa_cons (pv 1) (pa_cons pe_str pa_nil))))) pss_nil) (pss_cons 
  (ps_if (pt_cmpR op_ne (pe_callB call_len_seq (by rfl) nl PySem.boot_len (pa_cons (pv 2) pa_nil)) (pv 3) (nomark _)) (pss_one (ps_raise rfl (takes_of rfl rfl rfl rfl) (pmk_oex GB.o GB.i GB.t GB.F hr2 GB.b .nil pass0 rfl GB.m (pa_cons (pv 1) (pa_cons pe_str pa_nil))))) pss_nil) (pss_one 
  (ps_for (passes_of rfl) rfl (pi_list (pv 2)) (pg_name (i := 4) sc_check_row.nd rfl (Or.inl rfl)) (pss_one 
    (ps_if (pt_not (pt_val (pe_meth (pv 0) T.cl GH.M GH.F hr2 GH.b .nil pass0 (pa_cons (pv 4) pa_nil)))) (pss_one (ps_raise rfl (takes_of rfl rfl rfl rfl) (pmk_oex GB.o GB.i GB.t GB.F hr2 GB.b .nil pass0 rfl GB.m (pa_cons (pv 1) (pa_cons pe_str pa_nil))))) pss_nil)))))), ?_⟩
      exact ⟨_, rfl, x, (.sc u), rfl, hx, fun H1 S1 => ⟨_, rfl, iteT ⟨_, rfl, mkO_of2 ((k1 "row" (rowW_row rfl)).mono S1)⟩⟩⟩
    | dk =>
      refine ⟨_, (pss_cons 
  (ps_if (pt_not (pt_val (pcal GS hr pass0 (pa_cons (pv 2) pa_nil)))) (pss_one (ps_raise rfl (takes_of rfl rfl rfl rfl) (pmk_oex GB.o GB.i GB.t GB.F hr2 GB.b .nil pass0 rfl GB.m (pa_cons (pv 1) (pa_cons pe_str pa_nil))))) pss_nil) (pss_cons 
  (ps_if (pt_cmpR op_ne (pe_callB call_len_seq (by rfl) nl PySem.boot_len (pa_cons (pv 2) pa_nil)) (pv 3) (nomark _)) (pss_one (ps_raise rfl (takes_of rfl rfl rfl rfl) (pmk_oex GB.o GB.i GB.t GB.F hr2 GB.b .nil pass0 rfl GB.m (pa_cons (pv 1) (pa_cons pe_str pa_nil))))) pss_nil) (pss_one 
  (ps_for (passes_of rfl) rfl (pi_list (pv 2)) (pg_name (i := 4) sc_check_row.nd rfl (Or.inl rfl)) (pss_one 
    (ps_if (pt_not (pt_val (pe_meth (pv 0) T.cl GH.M GH.F hr2 GH.b .nil pass0 (pa_cons (pv 4) pa_nil)))) (pss_one (ps_raise rfl (takes_of rfl rfl rfl rfl) (pmk_oex GB.o GB.i GB.t GB.F hr2 GB.b .nil pass0 rfl GB.m (pa_cons (pv 1) (pa_cons pe_str pa_nil))))) pss_nil)))))), ?_⟩
      exact ⟨_, rfl, x, .dk, rfl, hx, fun H1 S1 => ⟨_, rfl, iteT ⟨_, rfl, mkO_of2 ((k1 "row" (rowW_row rfl)).mono S1)⟩⟩⟩
    | lst xs =>
      obtain ⟨p, rfl, hp⟩ := hx
      refine ⟨_, (pss_cons 
  (ps_if (pt_not (pt_val (pcal GS hr pass0 (pa_cons (pv 2) pa_nil)))) (pss_one (ps_raise rfl (takes_of rfl rfl rfl rfl) (pmk_oex GB.o GB.i GB.t GB.F hr2 GB.b .nil pass0 rfl GB.m (pa_cons (pv 1) (pa_cons pe_str pa_nil))))) pss_nil) (pss_cons 
  (ps_if (pt_cmpR op_ne (pe_callB call_len_seq (by rfl) nl PySem.boot_len (pa_cons (pv 2) pa_nil)) (pv 3) (nomark _)) (pss_one (ps_raise rfl (takes_of rfl rfl rfl rfl) (pmk_oex GB.o GB.i GB.t GB.F hr2 GB.b .nil pass0 rfl GB.m (pa_cons (pv 1) (pa_cons pe_str pa_nil))))) pss_nil) (pss_one 
  (ps_for (passes_of rfl) rfl (pi_list (pv 2)) (pg_name (i := 4) sc_check_row.nd rfl (Or.inl rfl)) (pss_one 
    (ps_if (pt_not (pt_val (pe_meth (pv 0) T.cl GH.M GH.F hr2 GH.b .nil pass0 (pa_cons (pv 4) pa_nil)))) (pss_one (ps_raise rfl (takes_of rfl rfl rfl rfl) (pmk_oex GB.o GB.i GB.t GB.F hr2 GB.b .nil pass0 rfl GB.m (pa_cons (pv 1) (pa_cons pe_str pa_nil))))) pss_nil)))))), ?_⟩
      refine ⟨_, rfl, _, .lst xs, rfl, ⟨p, rfl, hp⟩, fun H1 S1 => ⟨_, rfl, iteF ?_⟩⟩
      have h1 := S1 _ _ hp
      have hT1 := hT.keep S1
      have kn1 : Known H1 xs := kn.keep S1
      obtain ⟨dx, tt, hx1, ht1⟩ := id hT1
      refine ⟨_, rfl, p, xs, rfl, .inl (SqL.of h1), _, rfl, rfl, _, rfl, ?_⟩
      by_cases c : xs.length = n
      case neg => exact if_tr (by simp; omega) ⟨_, rfl, mkO_of2 ((k1 "length" (rowW_length (s := .lst xs) rfl c)).mono S1)⟩
      refine if_fa (by simp [c]) ⟨_, rfl, p, rfl, ⟨_, SqL.of h1⟩, for_list (K := K) (a := p) (xs := xs) (fun i σ H' => ∃ v4 : Option V, σ = [some (.ref t), some (.int (j : Nat)), some (.ref p), some (.int (n : Nat)), v4] ∧ H' = H1 ∧ ∀ a y, a < i → xs[a]? = some y → wholeB y 0 ((ns.length : Nat) - 1) = true)
        ⟨none, rfl, rfl, fun a y ha => absurd ha (Nat.not_lt_zero a)⟩ (fun i σ H' _ ⟨_, _, e, _⟩ => by rw [e]; exact SqL.of h1) ?_ ?_⟩
      · rintro i y σ H' hy ⟨v4, rfl, rfl, hb⟩
        have hym := List.mem_of_getElem? hy
        obtain ⟨sy, isy⟩ := kn1 y hym
        refine ⟨_, rfl, t, dx, _, rfl, hx1, tf_no _ _ (by decide +kernel) (by decide +kernel), _, rfl, t, ns, y, sy, rfl, hT1, isy, _, rfl, ?_⟩
        cases e : tieB ns y with
        | true =>
          refine iteF ⟨_, rfl, rfl, fun a z ha hz => ?_⟩
          rcases Nat.lt_or_ge a i with hai | hai
          · exact hb a z hai hz
          · obtain rfl : a = i := by omega
            rw [hy] at hz
            rw [← Option.some.inj hz]
            exact e
        | false => exact iteT ⟨_, rfl, mkO_of2 ((k1 "tie" (rowW_tie (s := .lst xs) rfl c hym e)).mono S1)⟩
      · rintro σ H' ⟨v4, rfl, rfl, hb⟩
        refine k2 (rowW_none (s := .lst xs) rfl c fun y hy => ?_) _ S1
        obtain ⟨a, ha⟩ := List.getElem?_of_mem hy
        exact hb a y (List.getElem?_eq_some_iff.mp ha).1 ha
    | tup xs =>
      obtain ⟨p, rfl, hp⟩ := hx
      refine ⟨_, (pss_cons 
  (ps_if (pt_not (pt_val (pcal GS hr pass0 (pa_cons (pv 2) pa_nil)))) (pss_one (ps_raise rfl (takes_of rfl rfl rfl rfl) (pmk_oex GB.o GB.i GB.t GB.F hr2 GB.b .nil pass0 rfl GB.m (pa_cons (pv 1) (pa_cons pe_str pa_nil))))) pss_nil) (pss_cons 
  (ps_if (pt_cmpR op_ne (pe_callB call_len_seq (by rfl) nl PySem.boot_len (pa_cons (pv 2) pa_nil)) (pv 3) (nomark _)) (pss_one (ps_raise rfl (takes_of rfl rfl rfl rfl) (pmk_oex GB.o GB.i GB.t GB.F hr2 GB.b .nil pass0 rfl GB.m (pa_cons (pv 1) (pa_cons pe_str pa_nil))))) pss_nil) (pss_one 
  (ps_for (passes_of rfl) rfl (pi_tup (pv 2)) (pg_name (i := 4) sc_check_row.nd rfl (Or.inl rfl)) (pss_one 
    (ps_if (pt_not (pt_val (pe_meth (pv 0) T.cl GH.M GH.F hr2 GH.b .nil pass0 (pa_cons (pv 4) pa_nil)))) (pss_one (ps_raise rfl (takes_of rfl rfl rfl rfl) (pmk_oex GB.o GB.i GB.t GB.F hr2 GB.b .nil pass0 rfl GB.m (pa_cons (pv 1) (pa_cons pe_str pa_nil))))) pss_nil)))))), ?_⟩
      refine ⟨_, rfl, _, .tup xs, rfl, ⟨p, rfl, hp⟩, fun H1 S1 => ⟨_, rfl, iteF ?_⟩⟩
      have h1 := S1 _ _ hp
      have hT1 := hT.keep S1
      have kn1 : Known H1 xs := kn.keep S1
      obtain ⟨dx, tt, hx1, ht1⟩ := id hT1
      refine ⟨_, rfl, p, xs, rfl, .inr (SqT.of h1), _, rfl, rfl, _, rfl, ?_⟩
      by_cases c : xs.length = n
      case neg => exact if_tr (by simp; omega) ⟨_, rfl, mkO_of2 ((k1 "length" (rowW_length (s := .tup xs) rfl c)).mono S1)⟩
      refine if_fa (by simp [c]) ⟨_, rfl, p, rfl, ⟨_, SqT.of h1⟩, for_tup (K := K) (a := p) (xs := xs) (fun i σ H' => ∃ v4 : Option V, σ = [some (.ref t), some (.int (j : Nat)), some (.ref p), some (.int (n : Nat)), v4] ∧ H' = H1 ∧ ∀ a y, a < i → xs[a]? = some y → wholeB y 0 ((ns.length : Nat) - 1) = true)
        ⟨none, rfl, rfl, fun a y ha => absurd ha (Nat.not_lt_zero a)⟩ (fun i σ H' _ ⟨_, _, e, _⟩ => by rw [e]; exact SqT.of h1) ?_ ?_⟩
      · rintro i y σ H' hy ⟨v4, rfl, rfl, hb⟩
        have hym := List.mem_of_getElem? hy
        obtain ⟨sy, isy⟩ := kn1 y hym
        refine ⟨_, rfl, t, dx, _, rfl, hx1, tf_no _ _ (by decide +kernel) (by decide +kernel), _, rfl, t, ns, y, sy, rfl, hT1, isy, _, rfl, ?_⟩
        cases e : tieB ns y with
        | true =>
          refine iteF ⟨_, rfl, rfl, fun a z ha hz => ?_⟩
          rcases Nat.lt_or_ge a i with hai | hai
          · exact hb a z hai hz
          · obtain rfl : a = i := by omega
            rw [hy] at hz
            rw [← Option.some.inj hz]
            exact e
        | false => exact iteT ⟨_, rfl, mkO_of2 ((k1 "tie" (rowW_tie (s := .tup xs) rfl c hym e)).mono S1)⟩
      · rintro σ H' ⟨v4, rfl, rfl, hb⟩
        refine k2 (rowW_none (s := .tup xs) rfl c fun y hy => ?_) _ S1
        obtain ⟨a, ha⟩ := List.getElem?_of_mem hy
        exact hb a y (List.getElem?_eq_some_iff.mp ha).1 ha
end
end J

set_option Elab.async false
set_option linter.all false
set_option maxRecDepth 100000
set_option maxHeartbeats 4000000
namespace J
open PySem PySem.Spec PyProof.Rows L2
/-! ### a company is judged -/
/-- the first place at which a word is due -/
def scan (f : Nat → Option Str) : Nat → Option (Nat × Str)
  | 0 => none
  | n + 1 => match scan f n with
    | some r => some r
    | none => (f n).map fun w => (n, w)
theorem scan_none {f : Nat → Option Str} : ∀ {n : Nat}, (∀ j, j < n → f j = none) → scan f n = none
  | 0, _ => rfl
  | n + 1, h => by
    have ih := scan_none (n := n) fun j hj => h j (by omega)
    show (match scan f n with | some r => some r | none => (f n).map fun w => (n, w)) = none
    rw [ih, h n (by omega)]
    rfl
theorem scan_some {f : Nat → Option Str} {j : Nat} {w : Str} (h : ∀ i, i < j → f i = none) (e : f j = some w) : ∀ {n : Nat}, j < n → scan f n = some (j, w)
  | 0, hj => absurd hj (Nat.not_lt_zero j)
  | n + 1, hj => by
    show (match scan f n with | some r => some r | none => (f n).map fun w => (n, w)) = some (j, w)
    rcases Nat.lt_or_ge j n with hl | hl
    · rw [scan_some h e hl]
    · obtain rfl : j = n := by omega
      rw [scan_none h, e]
      rfl
/-- the word due at place j of the guests -/
def ordB (gs : List V) (j : Nat) : Bool := match gs[j - 1]?, gs[j]? with
  | some (.int a), some (.int b) => decide (0 < j) && decide (b ≤ a)
  | _, _ => false
def wordC (m : Nat) (gs : List V) (ss : List Sh) (j : Nat) : Option Str :=
  match gs[j]? with
  | none => none
  | some x =>
    if wholeB x 0 1000000000 = true then
      if ordB gs j = true then some "order"
      else match ss[j]? with
        | none => some "row"
        | some s => rowW m j s
    else some "label"
def dueC (m : Nat) (g r : Sh) (ss : List Sh) : Option (Int × Str) :=
  if ((g.isL || g.isT) && (r.isL || r.isT)) = true then
    if (items g).length ≤ 60 then
      match scan (wordC m (items g) ss) (items g).length with
      | some (j, w) => some ((j : Nat), w)
      | none => if (items g).length < (items r).length then some (((items g).length : Nat), "rows") else none
    else some (60, "many")
  else some (0, "sequence")
/-- the shapes of the rows -/
def ShAll (H : Hp) : List V → List Sh → Prop := Paired fun x s => Is H x s ∧ Known H (items s)
theorem ShAll.keep {H H' : Hp} (S : Same H H') : ∀ {xs : List V} {ss : List Sh}, ShAll H xs ss → ShAll H' xs ss
  | _, _, .nil => .nil
  | _, _, .cons h t => .cons ⟨h.1.keep S, h.2.keep S⟩ (ShAll.keep S t)
theorem ShAll.at_ {H : Hp} : ∀ {xs : List V} {ss : List Sh} {j : Nat} {x : V}, ShAll H xs ss → xs[j]? = some x → ∃ s, ss[j]? = some s ∧ Is H x s ∧ Known H (items s)
  | _, _, _, _, .nil, e => by simp at e
  | _, _, 0, _, .cons h _, e => by
    simp at e
    subst e
    exact ⟨_, rfl, h⟩
  | _, _, j + 1, x, .cons _ t, e => by
    obtain ⟨s, a, b⟩ := ShAll.at_ (j := j) (x := x) t (by simpa using e)
    exact ⟨s, by simpa using a, b⟩
theorem ShAll.len {H : Hp} {xs : List V} {ss : List Sh} (h : ShAll H xs ss) : xs.length = ss.length := Paired.length h
theorem due_seq {m : Nat} {g r : Sh} {ss : List Sh} (h : ((g.isL || g.isT) && (r.isL || r.isT)) = false) : dueC m g r ss = some ((0 : Int), ("sequence" : Str)) := by
  unfold dueC
  rw [if_neg (by simp [h])]
theorem due_many {m : Nat} {g r : Sh} {ss : List Sh} (h : ((g.isL || g.isT) && (r.isL || r.isT)) = true) (h2 : 60 < (items g).length) : dueC m g r ss = some ((60 : Int), ("many" : Str)) := by
  unfold dueC
  rw [if_pos h, if_neg (by omega)]
theorem due_word {m : Nat} {g r : Sh} {ss : List Sh} {j : Nat} {u : Str} (h : ((g.isL || g.isT) && (r.isL || r.isT)) = true) (h2 : (items g).length ≤ 60) (hb : ∀ i, i < j → wordC m (items g) ss i = none) (e : wordC m (items g) ss j = some u) (hj : j < (items g).length) :
    dueC m g r ss = some (((j : Nat) : Int), u) := by
  unfold dueC
  rw [if_pos h, if_pos h2, scan_some hb e hj]
theorem due_rows {m : Nat} {g r : Sh} {ss : List Sh} (h : ((g.isL || g.isT) && (r.isL || r.isT)) = true) (h2 : (items g).length ≤ 60) (hb : ∀ i, i < (items g).length → wordC m (items g) ss i = none) (h3 : (items g).length < (items r).length) :
    dueC m g r ss = some ((((items g).length : Nat) : Int), ("rows" : Str)) := by
  unfold dueC
  rw [if_pos h, if_pos h2, scan_none hb]
  show (if (items g).length < (items r).length then _ else _) = _
  rw [if_pos h3]
theorem due_ok {m : Nat} {g r : Sh} {ss : List Sh} (h : ((g.isL || g.isT) && (r.isL || r.isT)) = true) (h2 : (items g).length ≤ 60) (hb : ∀ i, i < (items g).length → wordC m (items g) ss i = none) (h3 : ¬ (items g).length < (items r).length) : dueC m g r ss = none := by
  unfold dueC
  rw [if_pos h, if_pos h2, scan_none hb]
  show (if (items g).length < (items r).length then _ else _) = _
  rw [if_neg h3]
theorem word_label {m j : Nat} {gs : List V} {ss : List Sh} {x : V} (h : gs[j]? = some x) (e : wholeB x 0 1000000000 = false) : wordC m gs ss j = some ("label" : Str) := by
  unfold wordC
  rw [h]
  show (if wholeB x 0 1000000000 = true then _ else _) = _
  rw [if_neg (by simp [e])]
theorem word_order {m j : Nat} {gs : List V} {ss : List Sh} {x : V} (h : gs[j]? = some x) (e : wholeB x 0 1000000000 = true) (o : ordB gs j = true) : wordC m gs ss j = some ("order" : Str) := by
  unfold wordC
  rw [h]
  show (if wholeB x 0 1000000000 = true then _ else _) = _
  rw [if_pos e, if_pos o]
theorem word_norow {m j : Nat} {gs : List V} {ss : List Sh} {x : V} (h : gs[j]? = some x) (e : wholeB x 0 1000000000 = true) (o : ordB gs j = false) (n : ss[j]? = none) : wordC m gs ss j = some ("row" : Str) := by
  unfold wordC
  rw [h]
  show (if wholeB x 0 1000000000 = true then _ else _) = _
  rw [if_pos e, if_neg (by simp [o]), n]
theorem word_row {m j : Nat} {gs : List V} {ss : List Sh} {x : V} {s : Sh} (h : gs[j]? = some x) (e : wholeB x 0 1000000000 = true) (o : ordB gs j = false) (n : ss[j]? = some s) : wordC m gs ss j = rowW m j s := by
  unfold wordC
  rw [h]
  show (if wholeB x 0 1000000000 = true then _ else _) = _
  rw [if_pos e, if_neg (by simp [o]), n]
theorem ord_ints {gs : List V} {j : Nat} {a b : Int} (h1 : gs[j]? = some (.int a)) (h2 : gs[j + 1]? = some (.int b)) : ordB gs (j + 1) = decide (b ≤ a) := by
  unfold ordB
  rw [show j + 1 - 1 = j by omega, h1, h2]
  show (decide (0 < j + 1) && decide (b ≤ a)) = _
  rw [decide_eq_true (by omega), Bool.true_and]
theorem ord_zero {gs : List V} : ordB gs 0 = false := by
  unfold ordB
  split
  · rfl
  · rfl
abbrev s_check_company : Stmt := top 19
theorem sc_check_company : FnScope ["ties", "guests", "rows", "index", "label"] ["ties", "guests", "rows"] (defScope s_check_company) := ⟨rfl, rfl, rfl, by decide +kernel, rfl, by decide +kernel, by decide +kernel⟩
def spCC (C CB : Addr) : Sp := fun vs H Q E => ∃ (t : Addr) (ns : List Int) (g r : V) (sg sr : Sh) (ss : List Sh), vs = [.ref t, g, r] ∧ TiesAt C H t ns ∧ Is H g sg ∧ Known H (items sg) ∧ Is H r sr ∧ ShAll H (items sr) ss ∧ (items sg).length ≤ 1000 ∧
  (∀ i u, dueC ns.length sg sr ss = some (i, u) → Tells2 H CB "index" "what" (.int i) (.str u) E) ∧ (dueC ns.length sg sr ss = none → ∀ H', Same H H' → Q .non H')
section
variable {P : Program} {w : World} {K : PySem.W.Frag} {mg : Str → Option Value} {base : Heap}
theorem ok_check_company {f C CB fS fL fR fI : Addr} {fd fdS fdL fdR fdI : FuncData} (F : Fun K "_check_company" "_check_company" s_check_company f fd) (nl : mg "len" = none) (ne : mg "enumerate" = none) (mG : ∃ t, mg "MOST_GUESTS" = some (.int 60 t))
    (GS : Cal P w K mg base CX0 1 "is_sequence" fS fdS ["thing"] spSeq) (GL : Cal P w K mg base CX0 2 "is_label" fL fdL ["thing"] spLabel) (GR : Cal P w K mg base (L2.CX P w) 3 "_check_row" fR fdR ["ties", "index", "row", "length"] (spRow C CB)) (GB : Ex2 P w K mg base "BadCompany" "index" "what" CB fI fdI ["self", "index", "what"]) :
    FnOk P w K mg base (L2.CX P w) 4 f fd ["ties", "guests", "rows"] (spCC C CB) := by
  obtain ⟨tG, mG⟩ := mG
  refine F.okX sc_check_company (fun vs H Q E h => ?_) (fun cdv A outer s H vs Q E hr h => ?_)
  · obtain ⟨t, ns, g, r, sg, sr, ss, rfl, _⟩ := h
    rfl
  · obtain ⟨t, ns, g, r, sg, sr, ss, rfl, hT, hg, kg, hrr, hs, lg, k1, k2⟩ := h
    have hr2 : Room 2 _ := hr.mono (by decide)
    cases sg with
    | sc u =>
      refine ⟨_, (pss_cons 
  (ps_if (PW.pt (pw_or (pt_not (pt_val (pcal GS hr pass0 (pa_cons (pv 1) pa_nil)))) (pw_or1 (pt_not (pt_val (pcal GS hr pass0 (pa_cons (pv 2) pa_nil))))))) (pss_one (ps_raise rfl (takes_of rfl rfl rfl rfl) (pmk_oex GB.o GB.i GB.t GB.F hr2 GB.b .nil pass0 rfl GB.m (pa_cons pe_int (pa_cons pe_str pa_nil))))) pss_nil) (pss_cons 
  (ps_if (pt_cmpR op_gt (pe_callB call_len_seq (by rfl) nl PySem.boot_len (pa_cons (pv 1) pa_nil)) (pe_glob (v := .int 60) rfl mG ⟨_, rfl⟩) (nomark _)) (pss_one (ps_raise rfl (takes_of rfl rfl rfl rfl) (pmk_oex GB.o GB.i GB.t GB.F hr2 GB.b .nil pass0 rfl GB.m (pa_cons (pe_glob (v := .int 60) rfl mG ⟨_, rfl⟩) (pa_cons pe_str pa_nil))))) pss_nil) (pss_cons 
  (ps_for (passes_of rfl) rfl (pi_enum (by rfl) ne (pa_cons (pv 1) pa_nil)) (pg_tup (by rfl) (pgs_cons (pg_name (i := 3) sc_check_company.nd rfl (Or.inl rfl)) (pgs_cons (pg_name (i := 4) sc_check_company.nd rfl (Or.inl rfl)) pgs_nil))) (pss_cons 
    (ps_if (pt_not (pt_val (pcal GL hr pass0 (pa_cons (pv 4) pa_nil)))) (pss_one (ps_raise rfl (takes_of rfl rfl rfl rfl) (pmk_oex GB.o GB.i GB.t GB.F hr2 GB.b .nil pass0 rfl GB.m (pa_cons (pv 3) (pa_cons pe_str pa_nil))))) pss_nil) (pss_cons 
    (ps_if (PW.pt (pw_and (pt_cmpR op_gt (pv 3) pe_int (nomark _)) (pw_and1 (pt_cmpR op_le (pv 4) (pe_ix ix_list (pv 1) (pe_op op_sub (pv 3) pe_int) (fun _ _ => rfl)) (nomark _))))) (pss_one (ps_raise rfl (takes_of rfl rfl rfl rfl) (pmk_oex GB.o GB.i GB.t GB.F hr2 GB.b .nil pass0 rfl GB.m (pa_cons (pv 3) (pa_cons pe_str pa_nil))))) pss_nil) (pss_cons 
    (ps_if (pt_cmpR op_ge (pv 3) (pe_callB call_len_seq (by rfl) nl PySem.boot_len (pa_cons (pv 2) pa_nil)) (nomark _)) (pss_one (ps_raise rfl (takes_of rfl rfl rfl rfl) (pmk_oex GB.o GB.i GB.t GB.F hr2 GB.b .nil pass0 rfl GB.m (pa_cons (pv 3) (pa_cons pe_str pa_nil))))) pss_nil) (pss_one 
    (ps_expr (pcal GR hr (passes_call (takes_of rfl rfl rfl rfl) (fun _ _ _ _ h => h)) (pa_cons (pv 0) (pa_cons (pv 3) (pa_cons (pe_ix ix_list (pv 2) (pv 3) (fun _ _ => rfl)) (pa_cons (pv 3) pa_nil))))))))))) (pss_one 
  (ps_if (pt_cmpR op_gt (pe_callB call_len_seq (by rfl) nl PySem.boot_len (pa_cons (pv 2) pa_nil)) (pe_callB call_len_seq (by rfl) nl PySem.boot_len (pa_cons (pv 1) pa_nil)) (nomark _)) (pss_one (ps_raise rfl (takes_of rfl rfl rfl rfl) (pmk_oex GB.o GB.i GB.t GB.F hr2 GB.b .nil pass0 rfl GB.m (pa_cons (pe_callB call_len_seq (by rfl) nl PySem.boot_len (pa_cons (pv 1) pa_nil)) (pa_cons pe_str pa_nil))))) pss_nil))))), ?_⟩
      exact ⟨_, rfl, g, (.sc u), rfl, hg, fun H1 S1 => ⟨_, rfl, iteT (iteT (mkO_of2 ((k1 0 "sequence" (due_seq rfl)).mono S1)))⟩⟩
    | dk =>
      refine ⟨_, (pss_cons 
  (ps_if (PW.pt (pw_or (pt_not (pt_val (pcal GS hr pass0 (pa_cons (pv 1) pa_nil)))) (pw_or1 (pt_not (pt_val (pcal GS hr pass0 (pa_cons (pv 2) pa_nil))))))) (pss_one (ps_raise rfl (takes_of rfl rfl rfl rfl) (pmk_oex GB.o GB.i GB.t GB.F hr2 GB.b .nil pass0 rfl GB.m (pa_cons pe_int (pa_cons pe_str pa_nil))))) pss_nil) (pss_cons 
  (ps_if (pt_cmpR op_gt (pe_callB call_len_seq (by rfl) nl PySem.boot_len (pa_cons (pv 1) pa_nil)) (pe_glob (v := .int 60) rfl mG ⟨_, rfl⟩) (nomark _)) (pss_one (ps_raise rfl (takes_of rfl rfl rfl rfl) (pmk_oex GB.o GB.i GB.t GB.F hr2 GB.b .nil pass0 rfl GB.m (pa_cons (pe_glob (v := .int 60) rfl mG ⟨_, rfl⟩) (pa_cons pe_str pa_nil))))) pss_nil) (pss_cons 
  (ps_for (passes_of rfl) rfl (pi_enum (by rfl) ne (pa_cons (pv 1) pa_nil)) (pg_tup (by rfl) (pgs_cons (pg_name (i := 3) sc_check_company.nd rfl (Or.inl rfl)) (pgs_cons (pg_name (i := 4) sc_check_company.nd rfl (Or.inl rfl)) pgs_nil))) (pss_cons 
    (ps_if (pt_not (pt_val (pcal GL hr pass0 (pa_cons (pv 4) pa_nil)))) (pss_one (ps_raise rfl (takes_of rfl rfl rfl rfl) (pmk_oex GB.o GB.i GB.t GB.F hr2 GB.b .nil pass0 rfl GB.m (pa_cons (pv 3) (pa_cons pe_str pa_nil))))) pss_nil) (pss_cons 
    (ps_if (PW.pt (pw_and (pt_cmpR op_gt (pv 3) pe_int (nomark _)) (pw_and1 (pt_cmpR op_le (pv 4) (pe_ix ix_list (pv 1) (pe_op op_sub (pv 3) pe_int) (fun _ _ => rfl)) (nomark _))))) (pss_one (ps_raise rfl (takes_of rfl rfl rfl rfl) (pmk_oex GB.o GB.i GB.t GB.F hr2 GB.b .nil pass0 rfl GB.m (pa_cons (pv 3) (pa_cons pe_str pa_nil))))) pss_nil) (pss_cons 
    (ps_if (pt_cmpR op_ge (pv 3) (pe_callB call_len_seq (by rfl) nl PySem.boot_len (pa_cons (pv 2) pa_nil)) (nomark _)) (pss_one (ps_raise rfl (takes_of rfl rfl rfl rfl) (pmk_oex GB.o GB.i GB.t GB.F hr2 GB.b .nil pass0 rfl GB.m (pa_cons (pv 3) (pa_cons pe_str pa_nil))))) pss_nil) (pss_one 
    (ps_expr (pcal GR hr (passes_call (takes_of rfl rfl rfl rfl) (fun _ _ _ _ h => h)) (pa_cons (pv 0) (pa_cons (pv 3) (pa_cons (pe_ix ix_list (pv 2) (pv 3) (fun _ _ => rfl)) (pa_cons (pv 3) pa_nil))))))))))) (pss_one 
  (ps_if (pt_cmpR op_gt (pe_callB call_len_seq (by rfl) nl PySem.boot_len (pa_cons (pv 2) pa_nil)) (pe_callB call_len_seq (by rfl) nl PySem.boot_len (pa_cons (pv 1) pa_nil)) (nomark _)) (pss_one (ps_raise rfl (takes_of rfl rfl rfl rfl) (pmk_oex GB.o GB.i GB.t GB.F hr2 GB.b .nil pass0 rfl GB.m (pa_cons (pe_callB call_len_seq (by rfl) nl PySem.boot_len (pa_cons (pv 1) pa_nil)) (pa_cons pe_str pa_nil))))) pss_nil))))), ?_⟩
      exact ⟨_, rfl, g, .dk, rfl, hg, fun H1 S1 => ⟨_, rfl, iteT (iteT (mkO_of2 ((k1 0 "sequence" (due_seq rfl)).mono S1)))⟩⟩
    | lst gs =>
      cases sr with
      | sc u =>
        obtain ⟨pg, rfl, hp⟩ := hg
        refine ⟨_, (pss_cons 
    (ps_if (PW.pt (pw_or (pt_not (pt_val (pcal GS hr pass0 (pa_cons (pv 1) pa_nil)))) (pw_or1 (pt_not (pt_val (pcal GS hr pass0 (pa_cons (pv 2) pa_nil))))))) (pss_one (ps_raise rfl (takes_of rfl rfl rfl rfl) (pmk_oex GB.o GB.i GB.t GB.F hr2 GB.b .nil pass0 rfl GB.m (pa_cons pe_int (pa_cons pe_str pa_nil))))) pss_nil) (pss_cons 
    (ps_if (pt_cmpR op_gt (pe_callB call_len_seq (by rfl) nl PySem.boot_len (pa_cons (pv 1) pa_nil)) (pe_glob (v := .int 60) rfl mG ⟨_, rfl⟩) (nomark _)) (pss_one (ps_raise rfl (takes_of rfl rfl rfl rfl) (pmk_oex GB.o GB.i GB.t GB.F hr2 GB.b .nil pass0 rfl GB.m (pa_cons (pe_glob (v := .int 60) rfl mG ⟨_, rfl⟩) (pa_cons pe_str pa_nil))))) pss_nil) (pss_cons 
    (ps_for (passes_of rfl) rfl (pi_enum (by rfl) ne (pa_cons (pv 1) pa_nil)) (pg_tup (by rfl) (pgs_cons (pg_name (i := 3) sc_check_company.nd rfl (Or.inl rfl)) (pgs_cons (pg_name (i := 4) sc_check_company.nd rfl (Or.inl rfl)) pgs_nil))) (pss_cons 
      (ps_if (pt_not (pt_val (pcal GL hr pass0 (pa_cons (pv 4) pa_nil)))) (pss_one (ps_raise rfl (takes_of rfl rfl rfl rfl) (pmk_oex GB.o GB.i GB.t GB.F hr2 GB.b .nil pass0 rfl GB.m (pa_cons (pv 3) (pa_cons pe_str pa_nil))))) pss_nil) (pss_cons 
      (ps_if (PW.pt (pw_and (pt_cmpR op_gt (pv 3) pe_int (nomark _)) (pw_and1 (pt_cmpR op_le (pv 4) (pe_ix ix_list (pv 1) (pe_op op_sub (pv 3) pe_int) (fun _ _ => rfl)) (nomark _))))) (pss_one (ps_raise rfl (takes_of rfl rfl rfl rfl) (pmk_oex GB.o GB.i GB.t GB.F hr2 GB.b .nil pass0 rfl GB.m (pa_cons (pv 3) (pa_cons pe_str pa_nil))))) pss_nil) (pss_cons 
      (ps_if (pt_cmpR op_ge (pv 3) (pe_callB call_len_seq (by rfl) nl PySem.boot_len (pa_cons (pv 2) pa_nil)) (nomark _)) (pss_one (ps_raise rfl (takes_of rfl rfl rfl rfl) (pmk_oex GB.o GB.i GB.t GB.F hr2 GB.b .nil pass0 rfl GB.m (pa_cons (pv 3) (pa_cons pe_str pa_nil))))) pss_nil) (pss_one 
      (ps_expr (pcal GR hr (passes_call (takes_of rfl rfl rfl rfl) (fun _ _ _ _ h => h)) (pa_cons (pv 0) (pa_cons (pv 3) (pa_cons (pe_ix ix_list (pv 2) (pv 3) (fun _ _ => rfl)) (pa_cons (pv 3) pa_nil))))))))))) (pss_one 
    (ps_if (pt_cmpR op_gt (pe_callB call_len_seq (by rfl) nl PySem.boot_len (pa_cons (pv 2) pa_nil)) (pe_callB call_len_seq (by rfl) nl PySem.boot_len (pa_cons (pv 1) pa_nil)) (nomark _)) (pss_one (ps_raise rfl (takes_of rfl rfl rfl rfl) (pmk_oex GB.o GB.i GB.t GB.F hr2 GB.b .nil pass0 rfl GB.m (pa_cons (pe_callB call_len_seq (by rfl) nl PySem.boot_len (pa_cons (pv 1) pa_nil)) (pa_cons pe_str pa_nil))))) pss_nil))))), ?_⟩
        exact ⟨_, rfl, _, Sh.lst gs, rfl, ⟨pg, rfl, hp⟩, fun H1 S1 => ⟨_, rfl, iteF ⟨_, rfl, r, (.sc u), rfl, hrr.keep S1, fun H2 S2 => ⟨_, rfl, iteT (mkO_of2 ((k1 0 "sequence" (due_seq rfl)).mono (S1.trans S2)))⟩⟩⟩⟩
      | dk =>
        obtain ⟨pg, rfl, hp⟩ := hg
        refine ⟨_, (pss_cons 
    (ps_if (PW.pt (pw_or (pt_not (pt_val (pcal GS hr pass0 (pa_cons (pv 1) pa_nil)))) (pw_or1 (pt_not (pt_val (pcal GS hr pass0 (pa_cons (pv 2) pa_nil))))))) (pss_one (ps_raise rfl (takes_of rfl rfl rfl rfl) (pmk_oex GB.o GB.i GB.t GB.F hr2 GB.b .nil pass0 rfl GB.m (pa_cons pe_int (pa_cons pe_str pa_nil))))) pss_nil) (pss_cons 
    (ps_if (pt_cmpR op_gt (pe_callB call_len_seq (by rfl) nl PySem.boot_len (pa_cons (pv 1) pa_nil)) (pe_glob (v := .int 60) rfl mG ⟨_, rfl⟩) (nomark _)) (pss_one (ps_raise rfl (takes_of rfl rfl rfl rfl) (pmk_oex GB.o GB.i GB.t GB.F hr2 GB.b .nil pass0 rfl GB.m (pa_cons (pe_glob (v := .int 60) rfl mG ⟨_, rfl⟩) (pa_cons pe_str pa_nil))))) pss_nil) (pss_cons 
    (ps_for (passes_of rfl) rfl (pi_enum (by rfl) ne (pa_cons (pv 1) pa_nil)) (pg_tup (by rfl) (pgs_cons (pg_name (i := 3) sc_check_company.nd rfl (Or.inl rfl)) (pgs_cons (pg_name (i := 4) sc_check_company.nd rfl (Or.inl rfl)) pgs_nil))) (pss_cons 
      (ps_if (pt_not (pt_val (pcal GL hr pass0 (pa_cons (pv 4) pa_nil)))) (pss_one (ps_raise rfl (takes_of rfl rfl rfl rfl) (pmk_oex GB.o GB.i GB.t GB.F hr2 GB.b .nil pass0 rfl GB.m (pa_cons (pv 3) (pa_cons pe_str pa_nil))))) pss_nil) (pss_cons 
      (ps_if (PW.pt (pw_and (pt_cmpR op_gt (pv 3) pe_int (nomark _)) (pw_and1 (pt_cmpR op_le (pv 4) (pe_ix ix_list (pv 1) (pe_op op_sub (pv 3) pe_int) (fun _ _ => rfl)) (nomark _))))) (pss_one (ps_raise rfl (takes_of rfl rfl rfl rfl) (pmk_oex GB.o GB.i GB.t GB.F hr2 GB.b .nil pass0 rfl GB.m (pa_cons (pv 3) (pa_cons pe_str pa_nil))))) pss_nil) (pss_cons 
      (ps_if (pt_cmpR op_ge (pv 3) (pe_callB call_len_seq (by rfl) nl PySem.boot_len (pa_cons (pv 2) pa_nil)) (nomark _)) (pss_one (ps_raise rfl (takes_of rfl rfl rfl rfl) (pmk_oex GB.o GB.i GB.t GB.F hr2 GB.b .nil pass0 rfl GB.m (pa_cons (pv 3) (pa_cons pe_str pa_nil))))) pss_nil) (pss_one 
      (ps_expr (pcal GR hr (passes_call (takes_of rfl rfl rfl rfl) (fun _ _ _ _ h => h)) (pa_cons (pv 0) (pa_cons (pv 3) (pa_cons (pe_ix ix_list (pv 2) (pv 3) (fun _ _ => rfl)) (pa_cons (pv 3) pa_nil))))))))))) (pss_one 
    (ps_if (pt_cmpR op_gt (pe_callB call_len_seq (by rfl) nl PySem.boot_len (pa_cons (pv 2) pa_nil)) (pe_callB call_len_seq (by rfl) nl PySem.boot_len (pa_cons (pv 1) pa_nil)) (nomark _)) (pss_one (ps_raise rfl (takes_of rfl rfl rfl rfl) (pmk_oex GB.o GB.i GB.t GB.F hr2 GB.b .nil pass0 rfl GB.m (pa_cons (pe_callB call_len_seq (by rfl) nl PySem.boot_len (pa_cons (pv 1) pa_nil)) (pa_cons pe_str pa_nil))))) pss_nil))))), ?_⟩
        exact ⟨_, rfl, _, Sh.lst gs, rfl, ⟨pg, rfl, hp⟩, fun H1 S1 => ⟨_, rfl, iteF ⟨_, rfl, r, .dk, rfl, hrr.keep S1, fun H2 S2 => ⟨_, rfl, iteT (mkO_of2 ((k1 0 "sequence" (due_seq rfl)).mono (S1.trans S2)))⟩⟩⟩⟩
      | lst rs =>
        obtain ⟨pg, rfl, hp⟩ := hg
        obtain ⟨pr, rfl, hq⟩ := hrr
        have both : (((Sh.lst gs).isL || (Sh.lst gs).isT) && ((Sh.lst rs).isL || (Sh.lst rs).isT)) = true := rfl
        refine ⟨_, (pss_cons 
    (ps_if (PW.pt (pw_or (pt_not (pt_val (pcal GS hr pass0 (pa_cons (pv 1) pa_nil)))) (pw_or1 (pt_not (pt_val (pcal GS hr pass0 (pa_cons (pv 2) pa_nil))))))) (pss_one (ps_raise rfl (takes_of rfl rfl rfl rfl) (pmk_oex GB.o GB.i GB.t GB.F hr2 GB.b .nil pass0 rfl GB.m (pa_cons pe_int (pa_cons pe_str pa_nil))))) pss_nil) (pss_cons 
    (ps_if (pt_cmpR op_gt (pe_callB call_len_seq (by rfl) nl PySem.boot_len (pa_cons (pv 1) pa_nil)) (pe_glob (v := .int 60) rfl mG ⟨_, rfl⟩) (nomark _)) (pss_one (ps_raise rfl (takes_of rfl rfl rfl rfl) (pmk_oex GB.o GB.i GB.t GB.F hr2 GB.b .nil pass0 rfl GB.m (pa_cons (pe_glob (v := .int 60) rfl mG ⟨_, rfl⟩) (pa_cons pe_str pa_nil))))) pss_nil) (pss_cons 
    (ps_for (passes_of rfl) rfl (pi_enum (by rfl) ne (pa_cons (pv 1) pa_nil)) (pg_tup (by rfl) (pgs_cons (pg_name (i := 3) sc_check_company.nd rfl (Or.inl rfl)) (pgs_cons (pg_name (i := 4) sc_check_company.nd rfl (Or.inl rfl)) pgs_nil))) (pss_cons 
      (ps_if (pt_not (pt_val (pcal GL hr pass0 (pa_cons (pv 4) pa_nil)))) (pss_one (ps_raise rfl (takes_of rfl rfl rfl rfl) (pmk_oex GB.o GB.i GB.t GB.F hr2 GB.b .nil pass0 rfl GB.m (pa_cons (pv 3) (pa_cons pe_str pa_nil))))) pss_nil) (pss_cons 
      (ps_if (PW.pt (pw_and (pt_cmpR op_gt (pv 3) pe_int (nomark _)) (pw_and1 (pt_cmpR op_le (pv 4) (pe_ix ix_list (pv 1) (pe_op op_sub (pv 3) pe_int) (fun _ _ => rfl)) (nomark _))))) (pss_one (ps_raise rfl (takes_of rfl rfl rfl rfl) (pmk_oex GB.o GB.i GB.t GB.F hr2 GB.b .nil pass0 rfl GB.m (pa_cons (pv 3) (pa_cons pe_str pa_nil))))) pss_nil) (pss_cons 
      (ps_if (pt_cmpR op_ge (pv 3) (pe_callB call_len_seq (by rfl) nl PySem.boot_len (pa_cons (pv 2) pa_nil)) (nomark _)) (pss_one (ps_raise rfl (takes_of rfl rfl rfl rfl) (pmk_oex GB.o GB.i GB.t GB.F hr2 GB.b .nil pass0 rfl GB.m (pa_cons (pv 3) (pa_cons pe_str pa_nil))))) pss_nil) (pss_one 
      (ps_expr (pcal GR hr (passes_call (takes_of rfl rfl rfl rfl) (fun _ _ _ _ h => h)) (pa_cons (pv 0) (pa_cons (pv 3) (pa_cons (pe_ix ix_list (pv 2) (pv 3) (fun _ _ => rfl)) (pa_cons (pv 3) pa_nil))))))))))) (pss_one 
    (ps_if (pt_cmpR op_gt (pe_callB call_len_seq (by rfl) nl PySem.boot_len (pa_cons (pv 2) pa_nil)) (pe_callB call_len_seq (by rfl) nl PySem.boot_len (pa_cons (pv 1) pa_nil)) (nomark _)) (pss_one (ps_raise rfl (takes_of rfl rfl rfl rfl) (pmk_oex GB.o GB.i GB.t GB.F hr2 GB.b .nil pass0 rfl GB.m (pa_cons (pe_callB call_len_seq (by rfl) nl PySem.boot_len (pa_cons (pv 1) pa_nil)) (pa_cons pe_str pa_nil))))) pss_nil))))), ?_⟩
        refine ⟨_, rfl, _, Sh.lst gs, rfl, ⟨pg, rfl, hp⟩, fun H1 S1 => ⟨_, rfl, iteF ⟨_, rfl, _, Sh.lst rs, rfl, ⟨pr, rfl, S1 _ _ hq⟩, fun H2 S2' => ⟨_, rfl, iteF ?_⟩⟩⟩⟩
        have S2 := S1.trans S2'
        have eg := S2 _ _ hp
        have er := S2 _ _ hq
        refine ⟨_, rfl, pg, gs, rfl, .inl (SqL.of eg), _, _, rfl, rfl, _, rfl, ?_⟩
        refine ifD (fun c => mkO_of2 ((k1 60 "many" (due_many both (by show 60 < gs.length; omega))).mono S2)) (fun c => ?_)
        have c60 : gs.length ≤ 60 := by omega
        have rl : rs.length = ss.length := hs.len
        refine ⟨_, rfl, pg, gs, rfl, SqL.of eg, for_enum (K := K) (a := pg) (xs := gs) (fun i σ H' => ∃ v3 v4 : Option V, σ = [some (.ref t), some (.ref pg), some (.ref pr), v3, v4] ∧ Same H2 H' ∧ ∀ a, a < i → wordC ns.length gs ss a = none)
          ⟨none, none, rfl, Same.refl _, fun a ha => absurd ha (Nat.not_lt_zero a)⟩ (fun i σ H' _ ⟨_, _, _, S, _⟩ => SqL.of (S _ _ eg)) ?_ ?_⟩
        · rintro i x σ H' T hx ⟨v3, v4, rfl, S3, hb⟩ hT0
          have hi : i < gs.length := (List.getElem?_eq_some_iff.mp hx).1
          have S4 : Same H2 (upd H' T (.tup [.int (i : Nat), x])) := S3.trans (new_same hT0)
          refine ⟨T, _, rfl, SqT.of upd_same, rfl, _, _, rfl, _, _, rfl, rfl, ?_⟩
          generalize upd H' T (.tup [.int (i : Nat), x]) = H4 at S4
          have eg4 := S4 _ _ eg
          have er4 := S4 _ _ er
          have SA := S2.trans S4
          obtain ⟨sx, isx⟩ := (kg.keep SA) x (List.mem_of_getElem? hx)
          refine ⟨_, rfl, x, sx, rfl, isx, _, rfl, ?_⟩
          cases e : wholeB x 0 1000000000 with
          | false => exact iteT ⟨_, rfl, mkO_of2 ((k1 (i : Nat) "label" (due_word both c60 hb (word_label hx e) hi)).mono SA)⟩
          | true =>
            obtain ⟨b, rfl, _, _⟩ := whole_int e
            refine iteF ⟨_, rfl, _, _, rfl, rfl, _, rfl, ?_⟩
            cases i with
            | zero =>
              refine ifD (fun c => absurd c (by decide)) (fun _ => ?_)
              have o : ordB gs 0 = false := ord_zero
              refine ⟨_, rfl, _, rfl, pr, rs, rfl, .inl (SqL.of er4), _, _, rfl, rfl, _, rfl, ?_⟩
              refine ifD (fun c => ⟨_, rfl, mkO_of2 ((k1 ((0 : Nat) : Int) "row" (due_word both c60 hb (word_norow hx e o (List.getElem?_eq_none_iff.mpr (by omega))) hi)).mono SA)⟩) (fun c => ?_)
              obtain ⟨z, hz⟩ : ∃ z, rs[0]? = some z := ⟨rs[0]'(by omega), List.getElem?_eq_getElem (by omega)⟩
              obtain ⟨sz, esz, isz, knz⟩ := (hs.keep SA).at_ hz
              refine ⟨_, rfl, _, rfl, _, rfl, _, rfl, _, _, _, _, rfl, rfl, SqL.of er4, at_of (j := 0) (v := z) rfl hz, _, rfl, t, ns, 0, 0, z, sz, rfl, hT.keep SA, isz, knz, fun u hu => (k1 ((0 : Nat) : Int) u (due_word both c60 hb ((word_row hx e o esz).trans hu) hi)).mono SA, fun hn H5 S5 => ⟨_, _, rfl, S4.trans S5, fun a ha => ?_⟩⟩
              rcases Nat.lt_or_ge a (0) with ha2 | ha2
              · exact hb a ha2
              · obtain rfl : a = 0 := by omega
                rw [word_row hx e o esz]
                exact hn
            | succ i =>
              refine ifD (fun _ => ?_) (fun c => absurd (show (0 : Int) < ((i + 1 : Nat) : Int) by omega) c)
              obtain ⟨y, hy⟩ : ∃ y, gs[i]? = some y := ⟨gs[i], List.getElem?_eq_getElem (by omega)⟩
              have wi : wholeB y 0 1000000000 = true := by
                cases ey : wholeB y 0 1000000000 with
                | true => rfl
                | false =>
                  have := hb i (by omega)
                  rw [word_label hy ey] at this
                  cases this
              obtain ⟨a, rfl, _, _⟩ := whole_int wi
              have oo := ord_ints hy hx
              refine ⟨_, rfl, _, rfl, _, rfl, _, _, rfl, rfl, _, _, _, _, rfl, rfl, SqL.of eg4, at_of (j := i) (v := .int a) (by omega) hy, _, _, rfl, rfl, _, rfl, ?_⟩
              refine ifD (fun c => ⟨_, rfl, mkO_of2 ((k1 ((i + 1 : Nat) : Int) "order" (due_word both c60 hb (word_order hx e (oo.trans (decide_eq_true c))) hi)).mono SA)⟩) (fun c => ?_)
              have o : ordB gs (i + 1) = false := by
                rw [oo]
                exact decide_eq_false c
              refine ⟨_, rfl, _, rfl, pr, rs, rfl, .inl (SqL.of er4), _, _, rfl, rfl, _, rfl, ?_⟩
              refine ifD (fun c => ⟨_, rfl, mkO_of2 ((k1 (((i + 1) : Nat) : Int) "row" (due_word both c60 hb (word_norow hx e o (List.getElem?_eq_none_iff.mpr (by omega))) hi)).mono SA)⟩) (fun c => ?_)
              obtain ⟨z, hz⟩ : ∃ z, rs[(i + 1)]? = some z := ⟨rs[(i + 1)]'(by omega), List.getElem?_eq_getElem (by omega)⟩
              obtain ⟨sz, esz, isz, knz⟩ := (hs.keep SA).at_ hz
              refine ⟨_, rfl, _, rfl, _, rfl, _, rfl, _, _, _, _, rfl, rfl, SqL.of er4, at_of (j := (i + 1)) (v := z) rfl hz, _, rfl, t, ns, (i + 1), (i + 1), z, sz, rfl, hT.keep SA, isz, knz, fun u hu => (k1 (((i + 1) : Nat) : Int) u (due_word both c60 hb ((word_row hx e o esz).trans hu) hi)).mono SA, fun hn H5 S5 => ⟨_, _, rfl, S4.trans S5, fun a ha => ?_⟩⟩
              rcases Nat.lt_or_ge a ((i + 1)) with ha2 | ha2
              · exact hb a ha2
              · obtain rfl : a = (i + 1) := by omega
                rw [word_row hx e o esz]
                exact hn
        · rintro σ H' ⟨v3, v4, rfl, S3, hb⟩
          have eg3 := S3 _ _ eg
          have er3 := S3 _ _ er
          refine ⟨_, rfl, pr, rs, rfl, .inl (SqL.of er3), _, rfl, pg, gs, rfl, .inl (SqL.of eg3), _, _, rfl, rfl, _, rfl, ?_⟩
          refine ifD (fun c => ⟨_, rfl, pg, gs, rfl, .inl (SqL.of eg3), mkO_of2 ((k1 _ "rows" (due_rows both c60 hb (by show gs.length < rs.length; omega))).mono (S2.trans S3))⟩) (fun c => ?_)
          exact k2 (due_ok both c60 hb (by show ¬ gs.length < rs.length; omega)) _ (S2.trans S3)
      | tup rs =>
        obtain ⟨pg, rfl, hp⟩ := hg
        obtain ⟨pr, rfl, hq⟩ := hrr
        have both : (((Sh.lst gs).isL || (Sh.lst gs).isT) && ((Sh.tup rs).isL || (Sh.tup rs).isT)) = true := rfl
        refine ⟨_, (pss_cons 
    (ps_if (PW.pt (pw_or (pt_not (pt_val (pcal GS hr pass0 (pa_cons (pv 1) pa_nil)))) (pw_or1 (pt_not (pt_val (pcal GS hr pass0 (pa_cons (pv 2) pa_nil))))))) (pss_one (ps_raise rfl (takes_of rfl rfl rfl rfl) (pmk_oex GB.o GB.i GB.t GB.F hr2 GB.b .nil pass0 rfl GB.m (pa_cons pe_int (pa_cons pe_str pa_nil))))) pss_nil) (pss_cons 
    (ps_if (pt_cmpR op_gt (pe_callB call_len_seq (by rfl) nl PySem.boot_len (pa_cons (pv 1) pa_nil)) (pe_glob (v := .int 60) rfl mG ⟨_, rfl⟩) (nomark _)) (pss_one (ps_raise rfl (takes_of rfl rfl rfl rfl) (pmk_oex GB.o GB.i GB.t GB.F hr2 GB.b .nil pass0 rfl GB.m (pa_cons (pe_glob (v := .int 60) rfl mG ⟨_, rfl⟩) (pa_cons pe_str pa_nil))))) pss_nil) (pss_cons 
    (ps_for (passes_of rfl) rfl (pi_enum (by rfl) ne (pa_cons (pv 1) pa_nil)) (pg_tup (by rfl) (pgs_cons (pg_name (i := 3) sc_check_company.nd rfl (Or.inl rfl)) (pgs_cons (pg_name (i := 4) sc_check_company.nd rfl (Or.inl rfl)) pgs_nil))) (pss_cons 
      (ps_if (pt_not (pt_val (pcal GL hr pass0 (pa_cons (pv 4) pa_nil)))) (pss_one (ps_raise rfl (takes_of rfl rfl rfl rfl) (pmk_oex GB.o GB.i GB.t GB.F hr2 GB.b .nil pass0 rfl GB.m (pa_cons (pv 3) (pa_cons pe_str pa_nil))))) pss_nil) (pss_cons 
      (ps_if (PW.pt (pw_and (pt_cmpR op_gt (pv 3) pe_int (nomark _)) (pw_and1 (pt_cmpR op_le (pv 4) (pe_ix ix_list (pv 1) (pe_op op_sub (pv 3) pe_int) (fun _ _ => rfl)) (nomark _))))) (pss_one (ps_raise rfl (takes_of rfl rfl rfl rfl) (pmk_oex GB.o GB.i GB.t GB.F hr2 GB.b .nil pass0 rfl GB.m (pa_cons (pv 3) (pa_cons pe_str pa_nil))))) pss_nil) (pss_cons 
      (ps_if (pt_cmpR op_ge (pv 3) (pe_callB call_len_seq (by rfl) nl PySem.boot_len (pa_cons (pv 2) pa_nil)) (nomark _)) (pss_one (ps_raise rfl (takes_of rfl rfl rfl rfl) (pmk_oex GB.o GB.i GB.t GB.F hr2 GB.b .nil pass0 rfl GB.m (pa_cons (pv 3) (pa_cons pe_str pa_nil))))) pss_nil) (pss_one 
      (ps_expr (pcal GR hr (passes_call (takes_of rfl rfl rfl rfl) (fun _ _ _ _ h => h)) (pa_cons (pv 0) (pa_cons (pv 3) (pa_cons (pe_ix ix_tup (pv 2) (pv 3) (fun _ _ => rfl)) (pa_cons (pv 3) pa_nil))))))))))) (pss_one 
    (ps_if (pt_cmpR op_gt (pe_callB call_len_seq (by rfl) nl PySem.boot_len (pa_cons (pv 2) pa_nil)) (pe_callB call_len_seq (by rfl) nl PySem.boot_len (pa_cons (pv 1) pa_nil)) (nomark _)) (pss_one (ps_raise rfl (takes_of rfl rfl rfl rfl) (pmk_oex GB.o GB.i GB.t GB.F hr2 GB.b .nil pass0 rfl GB.m (pa_cons (pe_callB call_len_seq (by rfl) nl PySem.boot_len (pa_cons (pv 1) pa_nil)) (pa_cons pe_str pa_nil))))) pss_nil))))), ?_⟩
        refine ⟨_, rfl, _, Sh.lst gs, rfl, ⟨pg, rfl, hp⟩, fun H1 S1 => ⟨_, rfl, iteF ⟨_, rfl, _, Sh.tup rs, rfl, ⟨pr, rfl, S1 _ _ hq⟩, fun H2 S2' => ⟨_, rfl, iteF ?_⟩⟩⟩⟩
        have S2 := S1.trans S2'
        have eg := S2 _ _ hp
        have er := S2 _ _ hq
        refine ⟨_, rfl, pg, gs, rfl, .inl (SqL.of eg), _, _, rfl, rfl, _, rfl, ?_⟩
        refine ifD (fun c => mkO_of2 ((k1 60 "many" (due_many both (by show 60 < gs.length; omega))).mono S2)) (fun c => ?_)
        have c60 : gs.length ≤ 60 := by omega
        have rl : rs.length = ss.length := hs.len
        refine ⟨_, rfl, pg, gs, rfl, SqL.of eg, for_enum (K := K) (a := pg) (xs := gs) (fun i σ H' => ∃ v3 v4 : Option V, σ = [some (.ref t), some (.ref pg), some (.ref pr), v3, v4] ∧ Same H2 H' ∧ ∀ a, a < i → wordC ns.length gs ss a = none)
          ⟨none, none, rfl, Same.refl _, fun a ha => absurd ha (Nat.not_lt_zero a)⟩ (fun i σ H' _ ⟨_, _, _, S, _⟩ => SqL.of (S _ _ eg)) ?_ ?_⟩
        · rintro i x σ H' T hx ⟨v3, v4, rfl, S3, hb⟩ hT0
          have hi : i < gs.length := (List.getElem?_eq_some_iff.mp hx).1
          have S4 : Same H2 (upd H' T (.tup [.int (i : Nat), x])) := S3.trans (new_same hT0)
          refine ⟨T, _, rfl, SqT.of upd_same, rfl, _, _, rfl, _, _, rfl, rfl, ?_⟩
          generalize upd H' T (.tup [.int (i : Nat), x]) = H4 at S4
          have eg4 := S4 _ _ eg
          have er4 := S4 _ _ er
          have SA := S2.trans S4
          obtain ⟨sx, isx⟩ := (kg.keep SA) x (List.mem_of_getElem? hx)
          refine ⟨_, rfl, x, sx, rfl, isx, _, rfl, ?_⟩
          cases e : wholeB x 0 1000000000 with
          | false => exact iteT ⟨_, rfl, mkO_of2 ((k1 (i : Nat) "label" (due_word both c60 hb (word_label hx e) hi)).mono SA)⟩
          | true =>
            obtain ⟨b, rfl, _, _⟩ := whole_int e
            refine iteF ⟨_, rfl, _, _, rfl, rfl, _, rfl, ?_⟩
            cases i with
            | zero =>
              refine ifD (fun c => absurd c (by decide)) (fun _ => ?_)
              have o : ordB gs 0 = false := ord_zero
              refine ⟨_, rfl, _, rfl, pr, rs, rfl, .inr (SqT.of er4), _, _, rfl, rfl, _, rfl, ?_⟩
              refine ifD (fun c => ⟨_, rfl, mkO_of2 ((k1 ((0 : Nat) : Int) "row" (due_word both c60 hb (word_norow hx e o (List.getElem?_eq_none_iff.mpr (by omega))) hi)).mono SA)⟩) (fun c => ?_)
              obtain ⟨z, hz⟩ : ∃ z, rs[0]? = some z := ⟨rs[0]'(by omega), List.getElem?_eq_getElem (by omega)⟩
              obtain ⟨sz, esz, isz, knz⟩ := (hs.keep SA).at_ hz
              refine ⟨_, rfl, _, rfl, _, rfl, _, rfl, _, _, _, _, rfl, rfl, SqT.of er4, at_of (j := 0) (v := z) rfl hz, _, rfl, t, ns, 0, 0, z, sz, rfl, hT.keep SA, isz, knz, fun u hu => (k1 ((0 : Nat) : Int) u (due_word both c60 hb ((word_row hx e o esz).trans hu) hi)).mono SA, fun hn H5 S5 => ⟨_, _, rfl, S4.trans S5, fun a ha => ?_⟩⟩
              rcases Nat.lt_or_ge a (0) with ha2 | ha2
              · exact hb a ha2
              · obtain rfl : a = 0 := by omega
                rw [word_row hx e o esz]
                exact hn
            | succ i =>
              refine ifD (fun _ => ?_) (fun c => absurd (show (0 : Int) < ((i + 1 : Nat) : Int) by omega) c)
              obtain ⟨y, hy⟩ : ∃ y, gs[i]? = some y := ⟨gs[i], List.getElem?_eq_getElem (by omega)⟩
              have wi : wholeB y 0 1000000000 = true := by
                cases ey : wholeB y 0 1000000000 with
                | true => rfl
                | false =>
                  have := hb i (by omega)
                  rw [word_label hy ey] at this
                  cases this
              obtain ⟨a, rfl, _, _⟩ := whole_int wi
              have oo := ord_ints hy hx
              refine ⟨_, rfl, _, rfl, _, rfl, _, _, rfl, rfl, _, _, _, _, rfl, rfl, SqL.of eg4, at_of (j := i) (v := .int a) (by omega) hy, _, _, rfl, rfl, _, rfl, ?_⟩
              refine ifD (fun c => ⟨_, rfl, mkO_of2 ((k1 ((i + 1 : Nat) : Int) "order" (due_word both c60 hb (word_order hx e (oo.trans (decide_eq_true c))) hi)).mono SA)⟩) (fun c => ?_)
              have o : ordB gs (i + 1) = false := by
                rw [oo]
                exact decide_eq_false c
              refine ⟨_, rfl, _, rfl, pr, rs, rfl, .inr (SqT.of er4), _, _, rfl, rfl, _, rfl, ?_⟩
              refine ifD (fun c => ⟨_, rfl, mkO_of2 ((k1 (((i + 1) : Nat) : Int) "row" (due_word both c60 hb (word_norow hx e o (List.getElem?_eq_none_iff.mpr (by omega))) hi)).mono SA)⟩) (fun c => ?_)
              obtain ⟨z, hz⟩ : ∃ z, rs[(i + 1)]? = some z := ⟨rs[(i + 1)]'(by omega), List.getElem?_eq_getElem (by omega)⟩
              obtain ⟨sz, esz, isz, knz⟩ := (hs.keep SA).at_ hz
              refine ⟨_, rfl, _, rfl, _, rfl, _, rfl, _, _, _, _, rfl, rfl, SqT.of er4, at_of (j := (i + 1)) (v := z) rfl hz, _, rfl, t, ns, (i + 1), (i + 1), z, sz, rfl, hT.keep SA, isz, knz, fun u hu => (k1 (((i + 1) : Nat) : Int) u (due_word both c60 hb ((word_row hx e o esz).trans hu) hi)).mono SA, fun hn H5 S5 => ⟨_, _, rfl, S4.trans S5, fun a ha => ?_⟩⟩
              rcases Nat.lt_or_ge a ((i + 1)) with ha2 | ha2
              · exact hb a ha2
              · obtain rfl : a = (i + 1) := by omega
                rw [word_row hx e o esz]
                exact hn
        · rintro σ H' ⟨v3, v4, rfl, S3, hb⟩
          have eg3 := S3 _ _ eg
          have er3 := S3 _ _ er
          refine ⟨_, rfl, pr, rs, rfl, .inr (SqT.of er3), _, rfl, pg, gs, rfl, .inl (SqL.of eg3), _, _, rfl, rfl, _, rfl, ?_⟩
          refine ifD (fun c => ⟨_, rfl, pg, gs, rfl, .inl (SqL.of eg3), mkO_of2 ((k1 _ "rows" (due_rows both c60 hb (by show gs.length < rs.length; omega))).mono (S2.trans S3))⟩) (fun c => ?_)
          exact k2 (due_ok both c60 hb (by show ¬ gs.length < rs.length; omega)) _ (S2.trans S3)
    | tup gs =>
      cases sr with
      | sc u =>
        obtain ⟨pg, rfl, hp⟩ := hg
        refine ⟨_, (pss_cons 
    (ps_if (PW.pt (pw_or (pt_not (pt_val (pcal GS hr pass0 (pa_cons (pv 1) pa_nil)))) (pw_or1 (pt_not (pt_val (pcal GS hr pass0 (pa_cons (pv 2) pa_nil))))))) (pss_one (ps_raise rfl (takes_of rfl rfl rfl rfl) (pmk_oex GB.o GB.i GB.t GB.F hr2 GB.b .nil pass0 rfl GB.m (pa_cons pe_int (pa_cons pe_str pa_nil))))) pss_nil) (pss_cons 
    (ps_if (pt_cmpR op_gt (pe_callB call_len_seq (by rfl) nl PySem.boot_len (pa_cons (pv 1) pa_nil)) (pe_glob (v := .int 60) rfl mG ⟨_, rfl⟩) (nomark _)) (pss_one (ps_raise rfl (takes_of rfl rfl rfl rfl) (pmk_oex GB.o GB.i GB.t GB.F hr2 GB.b .nil pass0 rfl GB.m (pa_cons (pe_glob (v := .int 60) rfl mG ⟨_, rfl⟩) (pa_cons pe_str pa_nil))))) pss_nil) (pss_cons 
    (ps_for (passes_of rfl) rfl (pi_enumT (by rfl) ne (pa_cons (pv 1) pa_nil)) (pg_tup (by rfl) (pgs_cons (pg_name (i := 3) sc_check_company.nd rfl (Or.inl rfl)) (pgs_cons (pg_name (i := 4) sc_check_company.nd rfl (Or.inl rfl)) pgs_nil))) (pss_cons 
      (ps_if (pt_not (pt_val (pcal GL hr pass0 (pa_cons (pv 4) pa_nil)))) (pss_one (ps_raise rfl (takes_of rfl rfl rfl rfl) (pmk_oex GB.o GB.i GB.t GB.F hr2 GB.b .nil pass0 rfl GB.m (pa_cons (pv 3) (pa_cons pe_str pa_nil))))) pss_nil) (pss_cons 
      (ps_if (PW.pt (pw_and (pt_cmpR op_gt (pv 3) pe_int (nomark _)) (pw_and1 (pt_cmpR op_le (pv 4) (pe_ix ix_tup (pv 1) (pe_op op_sub (pv 3) pe_int) (fun _ _ => rfl)) (nomark _))))) (pss_one (ps_raise rfl (takes_of rfl rfl rfl rfl) (pmk_oex GB.o GB.i GB.t GB.F hr2 GB.b .nil pass0 rfl GB.m (pa_cons (pv 3) (pa_cons pe_str pa_nil))))) pss_nil) (pss_cons 
      (ps_if (pt_cmpR op_ge (pv 3) (pe_callB call_len_seq (by rfl) nl PySem.boot_len (pa_cons (pv 2) pa_nil)) (nomark _)) (pss_one (ps_raise rfl (takes_of rfl rfl rfl rfl) (pmk_oex GB.o GB.i GB.t GB.F hr2 GB.b .nil pass0 rfl GB.m (pa_cons (pv 3) (pa_cons pe_str pa_nil))))) pss_nil) (pss_one 
      (ps_expr (pcal GR hr (passes_call (takes_of rfl rfl rfl rfl) (fun _ _ _ _ h => h)) (pa_cons (pv 0) (pa_cons (pv 3) (pa_cons (pe_ix ix_list (pv 2) (pv 3) (fun _ _ => rfl)) (pa_cons (pv 3) pa_nil))))))))))) (pss_one 
    (ps_if (pt_cmpR op_gt (pe_callB call_len_seq (by rfl) nl PySem.boot_len (pa_cons (pv 2) pa_nil)) (pe_callB call_len_seq (by rfl) nl PySem.boot_len (pa_cons (pv 1) pa_nil)) (nomark _)) (pss_one (ps_raise rfl (takes_of rfl rfl rfl rfl) (pmk_oex GB.o GB.i GB.t GB.F hr2 GB.b .nil pass0 rfl GB.m (pa_cons (pe_callB call_len_seq (by rfl) nl PySem.boot_len (pa_cons (pv 1) pa_nil)) (pa_cons pe_str pa_nil))))) pss_nil))))), ?_⟩
        exact ⟨_, rfl, _, Sh.tup gs, rfl, ⟨pg, rfl, hp⟩, fun H1 S1 => ⟨_, rfl, iteF ⟨_, rfl, r, (.sc u), rfl, hrr.keep S1, fun H2 S2 => ⟨_, rfl, iteT (mkO_of2 ((k1 0 "sequence" (due_seq rfl)).mono (S1.trans S2)))⟩⟩⟩⟩
      | dk =>
        obtain ⟨pg, rfl, hp⟩ := hg
        refine ⟨_, (pss_cons 
    (ps_if (PW.pt (pw_or (pt_not (pt_val (pcal GS hr pass0 (pa_cons (pv 1) pa_nil)))) (pw_or1 (pt_not (pt_val (pcal GS hr pass0 (pa_cons (pv 2) pa_nil))))))) (pss_one (ps_raise rfl (takes_of rfl rfl rfl rfl) (pmk_oex GB.o GB.i GB.t GB.F hr2 GB.b .nil pass0 rfl GB.m (pa_cons pe_int (pa_cons pe_str pa_nil))))) pss_nil) (pss_cons 
    (ps_if (pt_cmpR op_gt (pe_callB call_len_seq (by rfl) nl PySem.boot_len (pa_cons (pv 1) pa_nil)) (pe_glob (v := .int 60) rfl mG ⟨_, rfl⟩) (nomark _)) (pss_one (ps_raise rfl (takes_of rfl rfl rfl rfl) (pmk_oex GB.o GB.i GB.t GB.F hr2 GB.b .nil pass0 rfl GB.m (pa_cons (pe_glob (v := .int 60) rfl mG ⟨_, rfl⟩) (pa_cons pe_str pa_nil))))) pss_nil) (pss_cons 
    (ps_for (passes_of rfl) rfl (pi_enumT (by rfl) ne (pa_cons (pv 1) pa_nil)) (pg_tup (by rfl) (pgs_cons (pg_name (i := 3) sc_check_company.nd rfl (Or.inl rfl)) (pgs_cons (pg_name (i := 4) sc_check_company.nd rfl (Or.inl rfl)) pgs_nil))) (pss_cons 
      (ps_if (pt_not (pt_val (pcal GL hr pass0 (pa_cons (pv 4) pa_nil)))) (pss_one (ps_raise rfl (takes_of rfl rfl rfl rfl) (pmk_oex GB.o GB.i GB.t GB.F hr2 GB.b .nil pass0 rfl GB.m (pa_cons (pv 3) (pa_cons pe_str pa_nil))))) pss_nil) (pss_cons 
      (ps_if (PW.pt (pw_and (pt_cmpR op_gt (pv 3) pe_int (nomark _)) (pw_and1 (pt_cmpR op_le (pv 4) (pe_ix ix_tup (pv 1) (pe_op op_sub (pv 3) pe_int) (fun _ _ => rfl)) (nomark _))))) (pss_one (ps_raise rfl (takes_of rfl rfl rfl rfl) (pmk_oex GB.o GB.i GB.t GB.F hr2 GB.b .nil pass0 rfl GB.m (pa_cons (pv 3) (pa_cons pe_str pa_nil))))) pss_nil) (pss_cons 
      (ps_if (pt_cmpR op_ge (pv 3) (pe_callB call_len_seq (by rfl) nl PySem.boot_len (pa_cons (pv 2) pa_nil)) (nomark _)) (pss_one (ps_raise rfl (takes_of rfl rfl rfl rfl) (pmk_oex GB.o GB.i GB.t GB.F hr2 GB.b .nil pass0 rfl GB.m (pa_cons (pv 3) (pa_cons pe_str pa_nil))))) pss_nil) (pss_one 
      (ps_expr (pcal GR hr (passes_call (takes_of rfl rfl rfl rfl) (fun _ _ _ _ h => h)) (pa_cons (pv 0) (pa_cons (pv 3) (pa_cons (pe_ix ix_list (pv 2) (pv 3) (fun _ _ => rfl)) (pa_cons (pv 3) pa_nil))))))))))) (pss_one 
    (ps_if (pt_cmpR op_gt (pe_callB call_len_seq (by rfl) nl PySem.boot_len (pa_cons (pv 2) pa_nil)) (pe_callB call_len_seq (by rfl) nl PySem.boot_len (pa_cons (pv 1) pa_nil)) (nomark _)) (pss_one (ps_raise rfl (takes_of rfl rfl rfl rfl) (pmk_oex GB.o GB.i GB.t GB.F hr2 GB.b .nil pass0 rfl GB.m (pa_cons (pe_callB call_len_seq (by rfl) nl PySem.boot_len (pa_cons (pv 1) pa_nil)) (pa_cons pe_str pa_nil))))) pss_nil))))), ?_⟩
        exact ⟨_, rfl, _, Sh.tup gs, rfl, ⟨pg, rfl, hp⟩, fun H1 S1 => ⟨_, rfl, iteF ⟨_, rfl, r, .dk, rfl, hrr.keep S1, fun H2 S2 => ⟨_, rfl, iteT (mkO_of2 ((k1 0 "sequence" (due_seq rfl)).mono (S1.trans S2)))⟩⟩⟩⟩
      | lst rs =>
        obtain ⟨pg, rfl, hp⟩ := hg
        obtain ⟨pr, rfl, hq⟩ := hrr
        have both : (((Sh.tup gs).isL || (Sh.tup gs).isT) && ((Sh.lst rs).isL || (Sh.lst rs).isT)) = true := rfl
        refine ⟨_, (pss_cons 
    (ps_if (PW.pt (pw_or (pt_not (pt_val (pcal GS hr pass0 (pa_cons (pv 1) pa_nil)))) (pw_or1 (pt_not (pt_val (pcal GS hr pass0 (pa_cons (pv 2) pa_nil))))))) (pss_one (ps_raise rfl (takes_of rfl rfl rfl rfl) (pmk_oex GB.o GB.i GB.t GB.F hr2 GB.b .nil pass0 rfl GB.m (pa_cons pe_int (pa_cons pe_str pa_nil))))) pss_nil) (pss_cons 
    (ps_if (pt_cmpR op_gt (pe_callB call_len_seq (by rfl) nl PySem.boot_len (pa_cons (pv 1) pa_nil)) (pe_glob (v := .int 60) rfl mG ⟨_, rfl⟩) (nomark _)) (pss_one (ps_raise rfl (takes_of rfl rfl rfl rfl) (pmk_oex GB.o GB.i GB.t GB.F hr2 GB.b .nil pass0 rfl GB.m (pa_cons (pe_glob (v := .int 60) rfl mG ⟨_, rfl⟩) (pa_cons pe_str pa_nil))))) pss_nil) (pss_cons 
    (ps_for (passes_of rfl) rfl (pi_enumT (by rfl) ne (pa_cons (pv 1) pa_nil)) (pg_tup (by rfl) (pgs_cons (pg_name (i := 3) sc_check_company.nd rfl (Or.inl rfl)) (pgs_cons (pg_name (i := 4) sc_check_company.nd rfl (Or.inl rfl)) pgs_nil))) (pss_cons 
      (ps_if (pt_not (pt_val (pcal GL hr pass0 (pa_cons (pv 4) pa_nil)))) (pss_one (ps_raise rfl (takes_of rfl rfl rfl rfl) (pmk_oex GB.o GB.i GB.t GB.F hr2 GB.b .nil pass0 rfl GB.m (pa_cons (pv 3) (pa_cons pe_str pa_nil))))) pss_nil) (pss_cons 
      (ps_if (PW.pt (pw_and (pt_cmpR op_gt (pv 3) pe_int (nomark _)) (pw_and1 (pt_cmpR op_le (pv 4) (pe_ix ix_tup (pv 1) (pe_op op_sub (pv 3) pe_int) (fun _ _ => rfl)) (nomark _))))) (pss_one (ps_raise rfl (takes_of rfl rfl rfl rfl) (pmk_oex GB.o GB.i GB.t GB.F hr2 GB.b .nil pass0 rfl GB.m (pa_cons (pv 3) (pa_cons pe_str pa_nil))))) pss_nil) (pss_cons 
      (ps_if (pt_cmpR op_ge (pv 3) (pe_callB call_len_seq (by rfl) nl PySem.boot_len (pa_cons (pv 2) pa_nil)) (nomark _)) (pss_one (ps_raise rfl (takes_of rfl rfl rfl rfl) (pmk_oex GB.o GB.i GB.t GB.F hr2 GB.b .nil pass0 rfl GB.m (pa_cons (pv 3) (pa_cons pe_str pa_nil))))) pss_nil) (pss_one 
      (ps_expr (pcal GR hr (passes_call (takes_of rfl rfl rfl rfl) (fun _ _ _ _ h => h)) (pa_cons (pv 0) (pa_cons (pv 3) (pa_cons (pe_ix ix_list (pv 2) (pv 3) (fun _ _ => rfl)) (pa_cons (pv 3) pa_nil))))))))))) (pss_one 
    (ps_if (pt_cmpR op_gt (pe_callB call_len_seq (by rfl) nl PySem.boot_len (pa_cons (pv 2) pa_nil)) (pe_callB call_len_seq (by rfl) nl PySem.boot_len (pa_cons (pv 1) pa_nil)) (nomark _)) (pss_one (ps_raise rfl (takes_of rfl rfl rfl rfl) (pmk_oex GB.o GB.i GB.t GB.F hr2 GB.b .nil pass0 rfl GB.m (pa_cons (pe_callB call_len_seq (by rfl) nl PySem.boot_len (pa_cons (pv 1) pa_nil)) (pa_cons pe_str pa_nil))))) pss_nil))))), ?_⟩
        refine ⟨_, rfl, _, Sh.tup gs, rfl, ⟨pg, rfl, hp⟩, fun H1 S1 => ⟨_, rfl, iteF ⟨_, rfl, _, Sh.lst rs, rfl, ⟨pr, rfl, S1 _ _ hq⟩, fun H2 S2' => ⟨_, rfl, iteF ?_⟩⟩⟩⟩
        have S2 := S1.trans S2'
        have eg := S2 _ _ hp
        have er := S2 _ _ hq
        refine ⟨_, rfl, pg, gs, rfl, .inr (SqT.of eg), _, _, rfl, rfl, _, rfl, ?_⟩
        refine ifD (fun c => mkO_of2 ((k1 60 "many" (due_many both (by show 60 < gs.length; omega))).mono S2)) (fun c => ?_)
        have c60 : gs.length ≤ 60 := by omega
        have rl : rs.length = ss.length := hs.len
        refine ⟨_, rfl, pg, gs, rfl, SqT.of eg, for_enumT (K := K) (a := pg) (xs := gs) (fun i σ H' => ∃ v3 v4 : Option V, σ = [some (.ref t), some (.ref pg), some (.ref pr), v3, v4] ∧ Same H2 H' ∧ ∀ a, a < i → wordC ns.length gs ss a = none)
          ⟨none, none, rfl, Same.refl _, fun a ha => absurd ha (Nat.not_lt_zero a)⟩ (fun i σ H' _ ⟨_, _, _, S, _⟩ => SqT.of (S _ _ eg)) ?_ ?_⟩
        · rintro i x σ H' T hx ⟨v3, v4, rfl, S3, hb⟩ hT0
          have hi : i < gs.length := (List.getElem?_eq_some_iff.mp hx).1
          have S4 : Same H2 (upd H' T (.tup [.int (i : Nat), x])) := S3.trans (new_same hT0)
          refine ⟨T, _, rfl, SqT.of upd_same, rfl, _, _, rfl, _, _, rfl, rfl, ?_⟩
          generalize upd H' T (.tup [.int (i : Nat), x]) = H4 at S4
          have eg4 := S4 _ _ eg
          have er4 := S4 _ _ er
          have SA := S2.trans S4
          obtain ⟨sx, isx⟩ := (kg.keep SA) x (List.mem_of_getElem? hx)
          refine ⟨_, rfl, x, sx, rfl, isx, _, rfl, ?_⟩
          cases e : wholeB x 0 1000000000 with
          | false => exact iteT ⟨_, rfl, mkO_of2 ((k1 (i : Nat) "label" (due_word both c60 hb (word_label hx e) hi)).mono SA)⟩
          | true =>
            obtain ⟨b, rfl, _, _⟩ := whole_int e
            refine iteF ⟨_, rfl, _, _, rfl, rfl, _, rfl, ?_⟩
            cases i with
            | zero =>
              refine ifD (fun c => absurd c (by decide)) (fun _ => ?_)
              have o : ordB gs 0 = false := ord_zero
              refine ⟨_, rfl, _, rfl, pr, rs, rfl, .inl (SqL.of er4), _, _, rfl, rfl, _, rfl, ?_⟩
              refine ifD (fun c => ⟨_, rfl, mkO_of2 ((k1 ((0 : Nat) : Int) "row" (due_word both c60 hb (word_norow hx e o (List.getElem?_eq_none_iff.mpr (by omega))) hi)).mono SA)⟩) (fun c => ?_)
              obtain ⟨z, hz⟩ : ∃ z, rs[0]? = some z := ⟨rs[0]'(by omega), List.getElem?_eq_getElem (by omega)⟩
              obtain ⟨sz, esz, isz, knz⟩ := (hs.keep SA).at_ hz
              refine ⟨_, rfl, _, rfl, _, rfl, _, rfl, _, _, _, _, rfl, rfl, SqL.of er4, at_of (j := 0) (v := z) rfl hz, _, rfl, t, ns, 0, 0, z, sz, rfl, hT.keep SA, isz, knz, fun u hu => (k1 ((0 : Nat) : Int) u (due_word both c60 hb ((word_row hx e o esz).trans hu) hi)).mono SA, fun hn H5 S5 => ⟨_, _, rfl, S4.trans S5, fun a ha => ?_⟩⟩
              rcases Nat.lt_or_ge a (0) with ha2 | ha2
              · exact hb a ha2
              · obtain rfl : a = 0 := by omega
                rw [word_row hx e o esz]
                exact hn
            | succ i =>
              refine ifD (fun _ => ?_) (fun c => absurd (show (0 : Int) < ((i + 1 : Nat) : Int) by omega) c)
              obtain ⟨y, hy⟩ : ∃ y, gs[i]? = some y := ⟨gs[i], List.getElem?_eq_getElem (by omega)⟩
              have wi : wholeB y 0 1000000000 = true := by
                cases ey : wholeB y 0 1000000000 with
                | true => rfl
                | false =>
                  have := hb i (by omega)
                  rw [word_label hy ey] at this
                  cases this
              obtain ⟨a, rfl, _, _⟩ := whole_int wi
              have oo := ord_ints hy hx
              refine ⟨_, rfl, _, rfl, _, rfl, _, _, rfl, rfl, _, _, _, _, rfl, rfl, SqT.of eg4, at_of (j := i) (v := .int a) (by omega) hy, _, _, rfl, rfl, _, rfl, ?_⟩
              refine ifD (fun c => ⟨_, rfl, mkO_of2 ((k1 ((i + 1 : Nat) : Int) "order" (due_word both c60 hb (word_order hx e (oo.trans (decide_eq_true c))) hi)).mono SA)⟩) (fun c => ?_)
              have o : ordB gs (i + 1) = false := by
                rw [oo]
                exact decide_eq_false c
              refine ⟨_, rfl, _, rfl, pr, rs, rfl, .inl (SqL.of er4), _, _, rfl, rfl, _, rfl, ?_⟩
              refine ifD (fun c => ⟨_, rfl, mkO_of2 ((k1 (((i + 1) : Nat) : Int) "row" (due_word both c60 hb (word_norow hx e o (List.getElem?_eq_none_iff.mpr (by omega))) hi)).mono SA)⟩) (fun c => ?_)
              obtain ⟨z, hz⟩ : ∃ z, rs[(i + 1)]? = some z := ⟨rs[(i + 1)]'(by omega), List.getElem?_eq_getElem (by omega)⟩
              obtain ⟨sz, esz, isz, knz⟩ := (hs.keep SA).at_ hz
              refine ⟨_, rfl, _, rfl, _, rfl, _, rfl, _, _, _, _, rfl, rfl, SqL.of er4, at_of (j := (i + 1)) (v := z) rfl hz, _, rfl, t, ns, (i + 1), (i + 1), z, sz, rfl, hT.keep SA, isz, knz, fun u hu => (k1 (((i + 1) : Nat) : Int) u (due_word both c60 hb ((word_row hx e o esz).trans hu) hi)).mono SA, fun hn H5 S5 => ⟨_, _, rfl, S4.trans S5, fun a ha => ?_⟩⟩
              rcases Nat.lt_or_ge a ((i + 1)) with ha2 | ha2
              · exact hb a ha2
              · obtain rfl : a = (i + 1) := by omega
                rw [word_row hx e o esz]
                exact hn
        · rintro σ H' ⟨v3, v4, rfl, S3, hb⟩
          have eg3 := S3 _ _ eg
          have er3 := S3 _ _ er
          refine ⟨_, rfl, pr, rs, rfl, .inl (SqL.of er3), _, rfl, pg, gs, rfl, .inr (SqT.of eg3), _, _, rfl, rfl, _, rfl, ?_⟩
          refine ifD (fun c => ⟨_, rfl, pg, gs, rfl, .inr (SqT.of eg3), mkO_of2 ((k1 _ "rows" (due_rows both c60 hb (by show gs.length < rs.length; omega))).mono (S2.trans S3))⟩) (fun c => ?_)
          exact k2 (due_ok both c60 hb (by show ¬ gs.length < rs.length; omega)) _ (S2.trans S3)
      | tup rs =>
        obtain ⟨pg, rfl, hp⟩ := hg
        obtain ⟨pr, rfl, hq⟩ := hrr
        have both : (((Sh.tup gs).isL || (Sh.tup gs).isT) && ((Sh.tup rs).isL || (Sh.tup rs).isT)) = true := rfl
        refine ⟨_, (pss_cons 
    (ps_if (PW.pt (pw_or (pt_not (pt_val (pcal GS hr pass0 (pa_cons (pv 1) pa_nil)))) (pw_or1 (pt_not (pt_val (pcal GS hr pass0 (pa_cons (pv 2) pa_nil))))))) (pss_one (ps_raise rfl (takes_of rfl rfl rfl rfl) (pmk_oex GB.o GB.i GB.t GB.F hr2 GB.b .nil pass0 rfl GB.m (pa_cons pe_int (pa_cons pe_str pa_nil))))) pss_nil) (pss_cons 
    (ps_if (pt_cmpR op_gt (pe_callB call_len_seq (by rfl) nl PySem.boot_len (pa_cons (pv 1) pa_nil)) (pe_glob (v := .int 60) rfl mG ⟨_, rfl⟩) (nomark _)) (pss_one (ps_raise rfl (takes_of rfl rfl rfl rfl) (pmk_oex GB.o GB.i GB.t GB.F hr2 GB.b .nil pass0 rfl GB.m (pa_cons (pe_glob (v := .int 60) rfl mG ⟨_, rfl⟩) (pa_cons pe_str pa_nil))))) pss_nil) (pss_cons 
    (ps_for (passes_of rfl) rfl (pi_enumT (by rfl) ne (pa_cons (pv 1) pa_nil)) (pg_tup (by rfl) (pgs_cons (pg_name (i := 3) sc_check_company.nd rfl (Or.inl rfl)) (pgs_cons (pg_name (i := 4) sc_check_company.nd rfl (Or.inl rfl)) pgs_nil))) (pss_cons 
      (ps_if (pt_not (pt_val (pcal GL hr pass0 (pa_cons (pv 4) pa_nil)))) (pss_one (ps_raise rfl (takes_of rfl rfl rfl rfl) (pmk_oex GB.o GB.i GB.t GB.F hr2 GB.b .nil pass0 rfl GB.m (pa_cons (pv 3) (pa_cons pe_str pa_nil))))) pss_nil) (pss_cons 
      (ps_if (PW.pt (pw_and (pt_cmpR op_gt (pv 3) pe_int (nomark _)) (pw_and1 (pt_cmpR op_le (pv 4) (pe_ix ix_tup (pv 1) (pe_op op_sub (pv 3) pe_int) (fun _ _ => rfl)) (nomark _))))) (pss_one (ps_raise rfl (takes_of rfl rfl rfl rfl) (pmk_oex GB.o GB.i GB.t GB.F hr2 GB.b .nil pass0 rfl GB.m (pa_cons (pv 3) (pa_cons pe_str pa_nil))))) pss_nil) (pss_cons 
      (ps_if (pt_cmpR op_ge (pv 3) (pe_callB call_len_seq (by rfl) nl PySem.boot_len (pa_cons (pv 2) pa_nil)) (nomark _)) (pss_one (ps_raise rfl (takes_of rfl rfl rfl rfl) (pmk_oex GB.o GB.i GB.t GB.F hr2 GB.b .nil pass0 rfl GB.m (pa_cons (pv 3) (pa_cons pe_str pa_nil))))) pss_nil) (pss_one 
      (ps_expr (pcal GR hr (passes_call (takes_of rfl rfl rfl rfl) (fun _ _ _ _ h => h)) (pa_cons (pv 0) (pa_cons (pv 3) (pa_cons (pe_ix ix_tup (pv 2) (pv 3) (fun _ _ => rfl)) (pa_cons (pv 3) pa_nil))))))))))) (pss_one 
    (ps_if (pt_cmpR op_gt (pe_callB call_len_seq (by rfl) nl PySem.boot_len (pa_cons (pv 2) pa_nil)) (pe_callB call_len_seq (by rfl) nl PySem.boot_len (pa_cons (pv 1) pa_nil)) (nomark _)) (pss_one (ps_raise rfl (takes_of rfl rfl rfl rfl) (pmk_oex GB.o GB.i GB.t GB.F hr2 GB.b .nil pass0 rfl GB.m (pa_cons (pe_callB call_len_seq (by rfl) nl PySem.boot_len (pa_cons (pv 1) pa_nil)) (pa_cons pe_str pa_nil))))) pss_nil))))), ?_⟩
        refine ⟨_, rfl, _, Sh.tup gs, rfl, ⟨pg, rfl, hp⟩, fun H1 S1 => ⟨_, rfl, iteF ⟨_, rfl, _, Sh.tup rs, rfl, ⟨pr, rfl, S1 _ _ hq⟩, fun H2 S2' => ⟨_, rfl, iteF ?_⟩⟩⟩⟩
        have S2 := S1.trans S2'
        have eg := S2 _ _ hp
        have er := S2 _ _ hq
        refine ⟨_, rfl, pg, gs, rfl, .inr (SqT.of eg), _, _, rfl, rfl, _, rfl, ?_⟩
        refine ifD (fun c => mkO_of2 ((k1 60 "many" (due_many both (by show 60 < gs.length; omega))).mono S2)) (fun c => ?_)
        have c60 : gs.length ≤ 60 := by omega
        have rl : rs.length = ss.length := hs.len
        refine ⟨_, rfl, pg, gs, rfl, SqT.of eg, for_enumT (K := K) (a := pg) (xs := gs) (fun i σ H' => ∃ v3 v4 : Option V, σ = [some (.ref t), some (.ref pg), some (.ref pr), v3, v4] ∧ Same H2 H' ∧ ∀ a, a < i → wordC ns.length gs ss a = none)
          ⟨none, none, rfl, Same.refl _, fun a ha => absurd ha (Nat.not_lt_zero a)⟩ (fun i σ H' _ ⟨_, _, _, S, _⟩ => SqT.of (S _ _ eg)) ?_ ?_⟩
        · rintro i x σ H' T hx ⟨v3, v4, rfl, S3, hb⟩ hT0
          have hi : i < gs.length := (List.getElem?_eq_some_iff.mp hx).1
          have S4 : Same H2 (upd H' T (.tup [.int (i : Nat), x])) := S3.trans (new_same hT0)
          refine ⟨T, _, rfl, SqT.of upd_same, rfl, _, _, rfl, _, _, rfl, rfl, ?_⟩
          generalize upd H' T (.tup [.int (i : Nat), x]) = H4 at S4
          have eg4 := S4 _ _ eg
          have er4 := S4 _ _ er
          have SA := S2.trans S4
          obtain ⟨sx, isx⟩ := (kg.keep SA) x (List.mem_of_getElem? hx)
          refine ⟨_, rfl, x, sx, rfl, isx, _, rfl, ?_⟩
          cases e : wholeB x 0 1000000000 with
          | false => exact iteT ⟨_, rfl, mkO_of2 ((k1 (i : Nat) "label" (due_word both c60 hb (word_label hx e) hi)).mono SA)⟩
          | true =>
            obtain ⟨b, rfl, _, _⟩ := whole_int e
            refine iteF ⟨_, rfl, _, _, rfl, rfl, _, rfl, ?_⟩
            cases i with
            | zero =>
              refine ifD (fun c => absurd c (by decide)) (fun _ => ?_)
              have o : ordB gs 0 = false := ord_zero
              refine ⟨_, rfl, _, rfl, pr, rs, rfl, .inr (SqT.of er4), _, _, rfl, rfl, _, rfl, ?_⟩
              refine ifD (fun c => ⟨_, rfl, mkO_of2 ((k1 ((0 : Nat) : Int) "row" (due_word both c60 hb (word_norow hx e o (List.getElem?_eq_none_iff.mpr (by omega))) hi)).mono SA)⟩) (fun c => ?_)
              obtain ⟨z, hz⟩ : ∃ z, rs[0]? = some z := ⟨rs[0]'(by omega), List.getElem?_eq_getElem (by omega)⟩
              obtain ⟨sz, esz, isz, knz⟩ := (hs.keep SA).at_ hz
              refine ⟨_, rfl, _, rfl, _, rfl, _, rfl, _, _, _, _, rfl, rfl, SqT.of er4, at_of (j := 0) (v := z) rfl hz, _, rfl, t, ns, 0, 0, z, sz, rfl, hT.keep SA, isz, knz, fun u hu => (k1 ((0 : Nat) : Int) u (due_word both c60 hb ((word_row hx e o esz).trans hu) hi)).mono SA, fun hn H5 S5 => ⟨_, _, rfl, S4.trans S5, fun a ha => ?_⟩⟩
              rcases Nat.lt_or_ge a (0) with ha2 | ha2
              · exact hb a ha2
              · obtain rfl : a = 0 := by omega
                rw [word_row hx e o esz]
                exact hn
            | succ i =>
              refine ifD (fun _ => ?_) (fun c => absurd (show (0 : Int) < ((i + 1 : Nat) : Int) by omega) c)
              obtain ⟨y, hy⟩ : ∃ y, gs[i]? = some y := ⟨gs[i], List.getElem?_eq_getElem (by omega)⟩
              have wi : wholeB y 0 1000000000 = true := by
                cases ey : wholeB y 0 1000000000 with
                | true => rfl
                | false =>
                  have := hb i (by omega)
                  rw [word_label hy ey] at this
                  cases this
              obtain ⟨a, rfl, _, _⟩ := whole_int wi
              have oo := ord_ints hy hx
              refine ⟨_, rfl, _, rfl, _, rfl, _, _, rfl, rfl, _, _, _, _, rfl, rfl, SqT.of eg4, at_of (j := i) (v := .int a) (by omega) hy, _, _, rfl, rfl, _, rfl, ?_⟩
              refine ifD (fun c => ⟨_, rfl, mkO_of2 ((k1 ((i + 1 : Nat) : Int) "order" (due_word both c60 hb (word_order hx e (oo.trans (decide_eq_true c))) hi)).mono SA)⟩) (fun c => ?_)
              have o : ordB gs (i + 1) = false := by
                rw [oo]
                exact decide_eq_false c
              refine ⟨_, rfl, _, rfl, pr, rs, rfl, .inr (SqT.of er4), _, _, rfl, rfl, _, rfl, ?_⟩
              refine ifD (fun c => ⟨_, rfl, mkO_of2 ((k1 (((i + 1) : Nat) : Int) "row" (due_word both c60 hb (word_norow hx e o (List.getElem?_eq_none_iff.mpr (by omega))) hi)).mono SA)⟩) (fun c => ?_)
              obtain ⟨z, hz⟩ : ∃ z, rs[(i + 1)]? = some z := ⟨rs[(i + 1)]'(by omega), List.getElem?_eq_getElem (by omega)⟩
              obtain ⟨sz, esz, isz, knz⟩ := (hs.keep SA).at_ hz
              refine ⟨_, rfl, _, rfl, _, rfl, _, rfl, _, _, _, _, rfl, rfl, SqT.of er4, at_of (j := (i + 1)) (v := z) rfl hz, _, rfl, t, ns, (i + 1), (i + 1), z, sz, rfl, hT.keep SA, isz, knz, fun u hu => (k1 (((i + 1) : Nat) : Int) u (due_word both c60 hb ((word_row hx e o esz).trans hu) hi)).mono SA, fun hn H5 S5 => ⟨_, _, rfl, S4.trans S5, fun a ha => ?_⟩⟩
              rcases Nat.lt_or_ge a ((i + 1)) with ha2 | ha2
              · exact hb a ha2
              · obtain rfl : a = (i + 1) := by omega
                rw [word_row hx e o esz]
                exact hn
        · rintro σ H' ⟨v3, v4, rfl, S3, hb⟩
          have eg3 := S3 _ _ eg
          have er3 := S3 _ _ er
          refine ⟨_, rfl, pr, rs, rfl, .inr (SqT.of er3), _, rfl, pg, gs, rfl, .inr (SqT.of eg3), _, _, rfl, rfl, _, rfl, ?_⟩
          refine ifD (fun c => ⟨_, rfl, pg, gs, rfl, .inr (SqT.of eg3), mkO_of2 ((k1 _ "rows" (due_rows both c60 hb (by show gs.length < rs.length; omega))).mono (S2.trans S3))⟩) (fun c => ?_)
          exact k2 (due_ok both c60 hb (by show ¬ gs.length < rs.length; omega)) _ (S2.trans S3)
end
end J

set_option Elab.async false
set_option linter.all false
set_option maxRecDepth 100000
set_option maxHeartbeats 4000000
namespace J
open PySem PySem.Spec PyProof.Rows L2
abbrev rTup (K : PySem.W.Frag) : List V → Hp → VK → Prop := fun xs H Q => ∃ p ys, xs = [.ref p] ∧ ((SqL K H p ys ∧ ∀ l, H l = none → Q (.ref l) (upd H l (.tup ys))) ∨ (SqT K H p ys ∧ Q (.ref p) H))
abbrev rLen (K : PySem.W.Frag) : List V → Hp → VK → Prop := fun xs H Q => ∃ p ys, xs = [.ref p] ∧ (SqL K H p ys ∨ SqT K H p ys) ∧ Q (.int (ys.length : Nat)) H
/-! ### the table -/
/-- k lists of n things each at T, new; f tells what stands where -/
def Grid (H0 H : Hp) (T : Addr) (n k : Nat) (f : Nat → Nat → V) : Prop := Same H0 H ∧ H0 T = none ∧ ∃ gs : List Addr, gs.length = k ∧ gs.Nodup ∧ H T = some (.lst (gs.map V.ref)) ∧ ∀ (a : Nat) (g : Addr), gs[a]? = some g → H0 g = none ∧ g ≠ T ∧ ∃ xs, H g = some (.lst xs) ∧ xs.length = n ∧ ∀ b, b < n → xs[b]? = some (f a b)
theorem Grid.new {H0 H : Hp} {T z : Addr} {n k : Nat} {f : Nat → Nat → V} {o : HO} (g : Grid H0 H T n k f) (hz : H z = none) : Grid H0 (upd H z o) T n k f := by
  obtain ⟨S, t0, gs, e, nd, hT, hg⟩ := g
  refine ⟨S.trans (new_same hz), t0, gs, e, nd, by rw [upd_ne (ne_of_none hT hz)]; exact hT, fun a c ha => ?_⟩
  obtain ⟨a0, aT, xs, ea, el, ef⟩ := hg a c ha
  exact ⟨a0, aT, xs, by rw [upd_ne (ne_of_none ea hz)]; exact ea, el, ef⟩
theorem Grid.congr {H0 H : Hp} {T : Addr} {n k : Nat} {f f' : Nat → Nat → V} (g : Grid H0 H T n k f) (h : ∀ a b, a < k → b < n → f a b = f' a b) : Grid H0 H T n k f' := by
  obtain ⟨S, t0, gs, e, nd, hT, hg⟩ := g
  refine ⟨S, t0, gs, e, nd, hT, fun a c ha => ?_⟩
  obtain ⟨a0, aT, xs, ea, el, ef⟩ := hg a c ha
  have hk : a < k := by rw [← e]; exact (List.getElem?_eq_some_iff.mp ha).1
  exact ⟨a0, aT, xs, ea, el, fun b hb => by rw [ef b hb, h a b hk hb]⟩
theorem Grid.at_ {H0 H : Hp} {T : Addr} {n k j : Nat} {f : Nat → Nat → V} (g : Grid H0 H T n k f) (hj : j < k) : ∃ (a : Addr) (xs L : List V), H T = some (.lst L) ∧ L[j]? = some (.ref a) ∧ H a = some (.lst xs) ∧ xs.length = n ∧ (∀ b, b < n → xs[b]? = some (f j b)) ∧ ∀ (b : Nat) (v : V), b < n → Grid H0 (upd H a (.lst (xs.set b v))) T n k (fun a' b' => if a' = j ∧ b' = b then v else f a' b') := by
  obtain ⟨S, t0, gs, e, nd, hT, hg⟩ := g
  have hj' : j < gs.length := by omega
  have ej := List.getElem?_eq_getElem hj'
  obtain ⟨a0, aT, xs, ea, el, ef⟩ := hg j _ ej
  refine ⟨gs[j], xs, _, hT, by rw [List.getElem?_map, ej]; rfl, ea, el, ef, fun b v hb => ⟨fun c o ec => ?_, t0, gs, e, nd, by rw [upd_ne aT.symm]; exact hT, fun c d hc => ?_⟩⟩
  · rw [upd_ne (ne_of_none ec a0)]
    exact S _ _ ec
  · obtain ⟨c0, cT, zs, ec, cl, cf⟩ := hg c d hc
    by_cases q : c = j
    · subst q
      obtain rfl : d = gs[c] := by rw [ej] at hc; exact (Option.some.inj hc).symm
      refine ⟨c0, cT, xs.set b v, upd_same, by rw [List.length_set]; exact el, fun b' hb' => ?_⟩
      by_cases w : b' = b
      · subst w
        rw [List.getElem?_set_self (by omega)]
        show some v = some (if c = c ∧ b' = b' then v else f c b')
        rw [if_pos ⟨rfl, rfl⟩]
      · rw [List.getElem?_set_ne (fun z => w z.symm)]
        show xs[b']? = some (if c = c ∧ b' = b then v else f c b')
        rw [if_neg (fun z => w z.2)]
        exact ef b' hb'
    · have nd2 : d ≠ gs[j] := fun z => q (nd_ix nd hc (by rw [z]; exact ej))
      refine ⟨c0, cT, zs, by rw [upd_ne nd2]; exact ec, cl, fun b' hb' => ?_⟩
      show zs[b']? = some (if c = j ∧ b' = b then v else f c b')
      rw [if_neg (fun z => q z.1)]
      exact cf b' hb'
theorem Grid.ne_new {H0 H : Hp} {T z : Addr} {n k : Nat} {f : Nat → Nat → V} (g : Grid H0 H T n k f) (hz : H z = none) : z ≠ T := by
  obtain ⟨_, _, gs, _, _, hT, _⟩ := g
  exact (ne_of_none hT hz).symm
theorem Grid.push {H0 H H' : Hp} {T z : Addr} {n k : Nat} {f : Nat → Nat → V} {ys : List V} (g : Grid H0 H T n k f) (hn : H z = none) (S' : Same H H') (hz : H' z = some (.lst ys)) (hl : ys.length = n) (hf : ∀ b, b < n → ys[b]? = some (f k b)) : ∃ acc : List V, H' T = some (.lst acc) ∧ acc.length = k ∧ Grid H0 (upd H' T (.lst (acc ++ [.ref z]))) T n (k + 1) f := by
  have zT := g.ne_new hn
  obtain ⟨S, t0, gs, e, nd, hT, hg⟩ := g
  have z0 := Same.free S hn
  have zg : z ∉ gs := fun q => by
    obtain ⟨a, ha⟩ := List.getElem?_of_mem q
    obtain ⟨_, _, xs, ea, _⟩ := hg a z ha
    rw [hn] at ea
    cases ea
  refine ⟨_, S' _ _ hT, by rw [List.length_map]; exact e, fun b o eb => ?_, t0, gs ++ [z], by rw [List.length_append, e]; rfl, ?_, by rw [upd_same, List.map_append]; rfl, fun a c ha => ?_⟩
  · rw [upd_ne (ne_of_none eb t0)]
    exact S' _ _ (S _ _ eb)
  · rw [List.nodup_append]
    exact ⟨nd, by simp, fun a ha b hb => by rw [List.mem_singleton] at hb; subst hb; exact fun q => zg (q ▸ ha)⟩
  · rcases Nat.lt_or_ge a gs.length with q | q
    · rw [List.getElem?_append_left q] at ha
      obtain ⟨a0, aT, xs, ea, el, ef⟩ := hg a c ha
      exact ⟨a0, aT, xs, by rw [upd_ne aT]; exact S' _ _ ea, el, ef⟩
    · have hq : a = k := by
        have := (List.getElem?_eq_some_iff.mp ha).1
        rw [List.length_append] at this
        have l : [z].length = 1 := rfl
        omega
      subst hq
      rw [← e, List.getElem?_append_right (Nat.le_refl _), Nat.sub_self] at ha
      obtain rfl : z = c := Option.some.inj ha
      exact ⟨z0, zT, ys, by rw [upd_ne zT]; exact hz, hl, hf⟩
/-- the tie at a, b of the table over rows tss -/
def cell (bs : List Int) (tss : List (List Int)) (a b : Nat) : V :=
  if b < a then match (tss[a]?.getD [])[b]? with
    | some t => .int t
    | none => .non
  else if a < b then match (tss[b]?.getD [])[a]? with
    | some t => .int (bs[t.toNat]?.getD 0)
    | none => .non
  else .non
/-- the table as it stands at place j, i of the loops -/
def cellAt (bs : List Int) (tss : List (List Int)) (j i a b : Nat) : V := if max a b < j ∨ (max a b = j ∧ min a b < i) then cell bs tss a b else .non
theorem cellAt_next {bs : List Int} {tss : List (List Int)} {j n a b : Nat} (h : ∀ r, tss[j]? = some r → r.length ≤ n) (hj : j < tss.length ∨ True) (hn : n = j) : cellAt bs tss j n a b = cellAt bs tss (j + 1) 0 a b := by
  subst hn
  unfold cellAt
  by_cases c : max a b < n ∨ (max a b = n ∧ min a b < n)
  · rw [if_pos c, if_pos (by omega)]
  · rw [if_neg c]
    by_cases d : max a b < n + 1 ∨ (max a b = n + 1 ∧ min a b < 0)
    · rw [if_pos d]
      have e1 : a = n := by omega
      have e2 : b = n := by omega
      subst e1
      subst e2
      unfold cell
      rw [if_neg (Nat.lt_irrefl _), if_neg (Nat.lt_irrefl _)]
    · rw [if_neg d]
theorem cellAt_step {bs : List Int} {tss : List (List Int)} {j i a b : Nat} {r : List Int} {t : Int} (hr : tss[j]? = some r) (ht : r[i]? = some t) (hi : i < j) :
    (if a = i ∧ b = j then V.int (bs[t.toNat]?.getD 0) else if a = j ∧ b = i then V.int t else cellAt bs tss j i a b) = cellAt bs tss j (i + 1) a b := by
  unfold cellAt
  by_cases c : a = i ∧ b = j
  · obtain ⟨rfl, rfl⟩ := c
    rw [if_pos ⟨rfl, rfl⟩, if_pos (by omega)]
    unfold cell
    rw [if_neg (by omega), if_pos hi, hr]
    show _ = (match r[a]? with | some t => V.int (bs[t.toNat]?.getD 0) | none => V.non)
    rw [ht]
  · rw [if_neg c]
    by_cases d : a = j ∧ b = i
    · obtain ⟨rfl, rfl⟩ := d
      rw [if_pos ⟨rfl, rfl⟩, if_pos (by omega)]
      unfold cell
      rw [if_pos hi, hr]
      show _ = (match r[b]? with | some t => V.int t | none => V.non)
      rw [ht]
    · rw [if_neg d]
      by_cases e : max a b < j ∨ (max a b = j ∧ min a b < i)
      · rw [if_pos e, if_pos (by omega)]
      · rw [if_neg e, if_neg (by omega)]
theorem ixN_in {n j : Nat} (hj : j < n) : ixN n (j : Int) = some j := by
  unfold ixN
  rw [if_pos (by omega), if_pos (by omega)]
  rfl
abbrev s_table_of : Stmt := top 18
theorem sc_table_of : FnScope ["ties", "rows", "table", "j", "row", "i", "tie", "_", "line"] ["ties", "rows"] (defScope s_table_of) := ⟨rfl, rfl, rfl, by decide +kernel, rfl, by decide +kernel, by decide +kernel⟩
/-- at p the rows of ties: tuples, each as long as its place -/
def RowsAt (H : Hp) (p : Addr) (m : Nat) (ps : List Addr) (tss : List (List Int)) : Prop := H p = some (.tup (ps.map V.ref)) ∧ ps.length = tss.length ∧ ∀ (j : Nat) (a : Addr) (ts : List Int), ps[j]? = some a → tss[j]? = some ts → H a = some (.tup (ts.map V.int)) ∧ ts.length = j ∧ ∀ t ∈ ts, 0 ≤ t ∧ t < (m : Nat)
theorem RowsAt.keep {H H' : Hp} {p : Addr} {m : Nat} {ps : List Addr} {tss : List (List Int)} (h : RowsAt H p m ps tss) (S : Same H H') : RowsAt H' p m ps tss :=
  ⟨S _ _ h.1, h.2.1, fun j a ts e e2 => by obtain ⟨x, y⟩ := h.2.2 j a ts e e2; exact ⟨S _ _ x, y⟩⟩
/-- at z the table of the rows tss -/
def TableAt (H : Hp) (z : Addr) (bs : List Int) (tss : List (List Int)) : Prop := ∃ us : List Addr, H z = some (.tup (us.map V.ref)) ∧ us.length = tss.length ∧ ∀ (a : Nat) (u : Addr), us[a]? = some u → ∃ xs : List V, H u = some (.tup xs) ∧ xs.length = tss.length ∧ ∀ b, b < tss.length → xs[b]? = some (cell bs tss a b)
theorem TableAt.keep {H H' : Hp} {z : Addr} {bs : List Int} {tss : List (List Int)} (h : TableAt H z bs tss) (S : Same H H') : TableAt H' z bs tss := by
  obtain ⟨us, a, b, c⟩ := h
  refine ⟨us, S _ _ a, b, fun i u e => ?_⟩
  obtain ⟨xs, x, y⟩ := c i u e
  exact ⟨xs, S _ _ x, y⟩
def spTable (C : Addr) : Sp := fun vs H Q _ => ∃ (t p : Addr) (ns : List Int) (ps : List Addr) (tss : List (List Int)), vs = [.ref t, .ref p] ∧ TiesAt C H t ns ∧ RowsAt H p ns.length ps tss ∧ ps.length ≤ 60 ∧ ∀ (H' : Hp) (z : Addr), Same H H' → H z = none → TableAt H' z ns tss → Q (.ref z) H'
section
variable {P : Program} {w : World} {K : PySem.W.Frag} {mg : Str → Option Value} {base : Heap}
theorem ok_table_of {f C : Addr} {fd : FuncData} (F : Fun K "_table_of" "_table_of" s_table_of f fd) (TC : TiC K C) (nl : mg "len" = none) (nt : mg "tuple" = none) (ne : mg "enumerate" = none) : FnOk P w K mg base CX0 1 f fd ["ties", "rows"] (spTable C) := by
  refine F.ok sc_table_of (fun vs H Q E h => ?_) (fun cdv A outer s H vs Q E hr h => ?_)
  · obtain ⟨t, p, ns, ps, tss, rfl, _⟩ := h
    rfl
  · obtain ⟨t, p, ns, ps, tss, rfl, hT, hR, h60, k⟩ := h
    have hlen := hR.2.1
    refine ⟨_, (C8.pss_cut 
  (ps_setLc (i := 2) (own := [("_", 7)]) (g := gName 7) rfl sc_table_of.nd rfl rfl (sw_true rfl rfl rfl (by decide +kernel)) (pi_tup (pv 1)) (blkOk_by (own := [("_", 7)]) (N := ["ties", "rows", "table", "j", "row", "i", "tie", "_", "line"]) (sc := defScope s_table_of) (by decide +kernel)) (fun _ _ _ _ _ => pg_name (i := 7) sc_table_of.nd rfl (Or.inl rfl)) (fun _ _ _ _ _ => pts_nil) (fun _ _ _ _ _ => (pe_op op_rep (pe_lst (pa_cons pe_non pa_nil)) (pe_callB (id := "len") (r := rLen K) call_len_seq (by rfl) nl PySem.boot_len (pa_cons (pv 1) pa_nil))))) (pss_cons 
  (ps_for PassesOwn.never rfl (pi_enumT (by rfl) ne (pa_cons (pv 1) pa_nil)) (pg_tup (by rfl) (pgs_cons (pg_name (i := 3) sc_table_of.nd rfl (Or.inl rfl)) (pgs_cons (pg_name (i := 4) sc_table_of.nd rfl (Or.inl rfl)) pgs_nil))) (pss_one 
    (ps_for PassesOwn.never rfl (pi_enumT (by rfl) ne (pa_cons (pv 4) pa_nil)) (pg_tup (by rfl) (pgs_cons (pg_name (i := 5) sc_table_of.nd rfl (Or.inl rfl)) (pgs_cons (pg_name (i := 6) sc_table_of.nd rfl (Or.inl rfl)) pgs_nil))) (pss_cons 
      (ps_asg (pv 6) (pg_sub (pe_ix ix_list (pv 2) (pv 3) (fun _ _ => rfl)) (pv 5) set_list)) (pss_one 
      (ps_asg (pe_ix ix_tup (pe_fld (pv 0) rfl) (pv 6) (fun _ _ => rfl)) (pg_sub (pe_ix ix_list (pv 2) (pv 5) (fun _ _ => rfl)) (pv 3) set_list))))))) (pss_one 
  (ps_ret (pe_callTy call_tuple_of (by rfl) nt (by decide +kernel) (pa_cons (pe_lc (own := [("line", 8)]) (g := gName 8) (by rfl) sc_table_of.nd (pi_list (pv 2)) (blkOk_by (own := [("line", 8)]) (N := ["ties", "rows", "table", "j", "row", "i", "tie", "_", "line"]) (sc := defScope s_table_of) (by decide +kernel)) (fun _ _ _ _ _ => pg_name (i := 8) sc_table_of.nd rfl (Or.inl rfl)) (fun _ _ _ _ _ => pts_nil) (fun _ _ _ _ _ => (pe_callTy (T := "tuple") (r := rTup K) call_tuple_of (by rfl) nt (by decide +kernel) (pa_cons (pv 8) pa_nil)))) pa_nil)))))), ?_⟩
    refine ⟨fun σ' H' => ∃ (T : Addr) (v3 v4 v5 v6 : Option V), σ' = [some (.ref t), some (.ref p), some (.ref T), v3, v4, v5, v6, none, none] ∧ Grid H H' T ps.length ps.length (fun _ _ => .non), ?_, ?_⟩
    · refine ⟨_, rfl, p, rfl, ⟨_, SqT.of hR.1⟩, fun D hD => ?_⟩
      refine lc_tup (K := K) (a := p) (xs := ps.map V.ref) (fun i H1 => Grid H H1 D ps.length i (fun _ _ => .non)) ⟨new_same hD, hD, [], rfl, .nil, upd_same, fun a c ha => nomatch ha⟩ (fun i H1 _ g => SqT.of (g.1 _ _ hR.1)) ?_ ?_
      · rintro i x H1 hx g
        refine ⟨rfl, yesT ?_⟩
        have hi : i < ps.length := by
          have q := (List.getElem?_eq_some_iff.mp hx).1
          rw [List.length_map] at q
          exact q
        refine ⟨(by show 1 ≤ sizeLine; decide), fun q hq => ⟨_, rfl, p, _, rfl, .inr (SqT.of ((new_same hq) _ _ (g.1 _ _ hR.1))), q, _, [.non], rfl, rfl, upd_same, by omega, by rw [List.length_map]; omega, ?_, fun z hz => ?_⟩⟩
        · rw [List.length_map]
          show 1 * ps.length ≤ 16777216
          omega
        · have g1 := g.new (o := .lst [.non]) hq
          have fl : ((List.replicate (((ps.map V.ref).length : Nat) : Int).toNat [V.non]).flatten) = List.replicate ps.length V.non := by
            rw [List.length_map, Int.toNat_natCast]
            generalize ps.length = n
            induction n with
            | zero => rfl
            | succ n ih => rw [List.replicate_succ, List.flatten_cons, ih, List.replicate_succ]; rfl
          rw [fl]
          obtain ⟨acc, ea, el, gg⟩ := g1.push (H' := upd (upd H1 q (.lst [.non])) z (.lst (List.replicate ps.length V.non))) hz (new_same hz) upd_same (by rw [List.length_replicate]) (fun b hb => by rw [List.getElem?_replicate, if_pos hb])
          exact ⟨acc, ea, by rw [el]; show i < 16777216; omega, gg⟩
      · rintro H1 g
        rw [List.length_map] at g
        exact ⟨D, _, _, _, _, rfl, g⟩
    · rintro σ' H' ⟨T, v3, v4, v5, v6, rfl, g⟩
      obtain ⟨dx, tb, hx, htb⟩ := id hT
      refine ⟨_, rfl, p, _, rfl, SqT.of (g.1 _ _ hR.1), for_enumT (K := K) (a := p) (xs := ps.map V.ref) (fun i σ H1 => ∃ v3 v4 v5 v6 : Option V, σ = [some (.ref t), some (.ref p), some (.ref T), v3, v4, v5, v6, none, none] ∧ Grid H H1 T ps.length ps.length (cellAt ns tss i 0))
        ⟨v3, v4, v5, v6, rfl, g.congr (fun a b _ _ => by unfold cellAt; rw [if_neg (by omega)])⟩ (fun i σ H1 _ ⟨_, _, _, _, _, g1⟩ => SqT.of (g1.1 _ _ hR.1)) ?_ ?_⟩
      · rintro j x σ H1 Z hxj ⟨v3, v4, v5, v6, rfl, g1⟩ hZ
        have hj : j < ps.length := by
          have q := (List.getElem?_eq_some_iff.mp hxj).1
          rw [List.length_map] at q
          exact q
        obtain ⟨a, ha, rfl⟩ : ∃ a, ps[j]? = some a ∧ x = V.ref a := by
          rw [List.getElem?_map, List.getElem?_eq_getElem hj] at hxj
          exact ⟨ps[j], List.getElem?_eq_getElem hj, (Option.some.inj hxj).symm⟩
        have hjt : j < tss.length := by omega
        have ets := List.getElem?_eq_getElem hjt
        generalize tss[j] = ts at ets
        obtain ⟨hts, tl, tr⟩ := hR.2.2 j a ts ha ets
        refine ⟨Z, _, rfl, SqT.of upd_same, rfl, _, _, rfl, _, _, rfl, rfl, ?_⟩
        have g2 := g1.new (o := .tup [.int (j : Nat), .ref a]) hZ
        generalize upd H1 Z (.tup [.int (j : Nat), .ref a]) = H2 at g2
        refine ⟨_, rfl, a, _, rfl, SqT.of (g2.1 _ _ hts), for_enumT (K := K) (a := a) (xs := ts.map V.int) (fun i σ H1 => ∃ v5 v6 : Option V, σ = [some (.ref t), some (.ref p), some (.ref T), some (.int (j : Nat)), some (.ref a), v5, v6, none, none] ∧ Grid H H1 T ps.length ps.length (cellAt ns tss j i))
          ⟨_, _, rfl, g2⟩ (fun i σ H1 _ ⟨_, _, _, g1⟩ => SqT.of (g1.1 _ _ hts)) ?_ ?_⟩
        · rintro i y σ H3 Z2 hyi ⟨v5, v6, rfl, g3⟩ hZ2
          have hi : i < ts.length := by
            have q := (List.getElem?_eq_some_iff.mp hyi).1
            rw [List.length_map] at q
            exact q
          obtain ⟨c, hc0, hc, rfl⟩ : ∃ c, ts[i]? = some c ∧ c ∈ ts ∧ y = V.int c := by
            rw [List.getElem?_map, List.getElem?_eq_getElem hi] at hyi
            exact ⟨ts[i], List.getElem?_eq_getElem hi, List.getElem_mem hi, (Option.some.inj hyi).symm⟩
          obtain ⟨c0, c1⟩ := tr c hc
          refine ⟨Z2, _, rfl, SqT.of upd_same, rfl, _, _, rfl, _, _, rfl, rfl, ?_⟩
          have g4 := g3.new (o := .tup [.int (i : Nat), .int c]) hZ2
          generalize upd H3 Z2 (.tup [.int (i : Nat), .int c]) = H4 at g4
          obtain ⟨b1, xs1, L1, e1, e2, e3, e4, _, e5⟩ := g4.at_ hj
          have g5 := e5 i (.int c) (by omega)
          refine ⟨_, rfl, _, rfl, _, rfl, _, _, _, _, rfl, rfl, SqL.of e1, at_of (j := j) rfl e2, _, rfl, b1, xs1, _, i, rfl, rfl, e3, by rw [e4]; exact ixN_in (by omega), ?_⟩
          generalize upd H4 b1 (.lst (xs1.set i (.int c))) = H5 at g5
          have hx5 := g5.1 _ _ hx
          have ht5 := g5.1 _ _ htb
          obtain ⟨b2, xs2, L2, f1, f2, f3, f4, _, f5⟩ := g5.at_ (j := i) (by omega)
          have hnc : ns[c.toNat]? = some (ns[c.toNat]'(by omega)) := List.getElem?_eq_getElem (by omega)
          have hcn : (ns.map V.int)[c.toNat]? = some (V.int (ns[c.toNat]'(by omega))) := by
            rw [List.getElem?_map, hnc]
            rfl
          refine ⟨_, rfl, t, C, dx, _, _, rfl, hx5, TC.cl, TC.nB, tf_backs _ _, _, rfl, _, _, _, _, rfl, rfl, SqT.of ht5, at_of (j := c.toNat) (by omega) hcn, ?_⟩
          refine ⟨_, rfl, _, rfl, _, _, _, _, rfl, rfl, SqL.of f1, at_of (j := i) rfl f2, _, rfl, b2, xs2, _, j, rfl, rfl, f3, by rw [f4]; exact ixN_in (by omega), ?_⟩
          refine ⟨_, _, rfl, (f5 j _ hj).congr fun a' b' _ _ => ?_⟩
          have q := cellAt_step (bs := ns) (a := a') (b := b') ets hc0 (by omega)
          rw [hnc] at q
          exact q
        · rintro σ H3 ⟨v5, v6, rfl, g3⟩
          rw [List.length_map] at g3
          exact ⟨_, _, _, _, rfl, g3.congr fun a' b' _ _ => cellAt_next (fun r er => by rw [ets] at er; obtain rfl := Option.some.inj er; exact Nat.le_refl _) (.inr trivial) (by omega)⟩
      · rintro σ H1 ⟨v3, v4, v5, v6, rfl, ⟨S1, t0, gs, el, _, eT, hg⟩⟩
        rw [List.length_map] at hg
        have fin : ∀ a b, a < ps.length → b < ps.length → cellAt ns tss ps.length 0 a b = cell ns tss a b := fun a b ha hb => by
          unfold cellAt
          rw [if_pos (by omega)]
        refine ⟨_, rfl, T, rfl, ⟨_, SqL.of eT⟩, fun D hD => ?_⟩
        refine lc_list (K := K) (a := T) (xs := gs.map V.ref) (fun i H2 => Same H1 H2 ∧ H1 D = none ∧ ∃ us : List Addr, us.length = i ∧ H2 D = some (.lst (us.map V.ref)) ∧ ∀ (a : Nat) (u : Addr), us[a]? = some u → u ≠ D ∧ ∃ xs : List V, H2 u = some (.tup xs) ∧ xs.length = ps.length ∧ ∀ b, b < ps.length → xs[b]? = some (cell ns tss a b)) ⟨new_same hD, hD, [], rfl, upd_same, fun a u e => nomatch e⟩ (fun i H2 _ ⟨S2, _⟩ => SqL.of (S2 _ _ eT)) ?_ ?_
        · rintro i x H2 hxi ⟨S2, D0, us, ul, ea, hu⟩
          have hi : i < gs.length := by
            have q := (List.getElem?_eq_some_iff.mp hxi).1
            rw [List.length_map] at q
            exact q
          obtain ⟨b, hb, rfl⟩ : ∃ b, gs[i]? = some b ∧ x = V.ref b := by
            rw [List.getElem?_map, List.getElem?_eq_getElem hi] at hxi
            exact ⟨gs[i], List.getElem?_eq_getElem hi, (Option.some.inj hxi).symm⟩
          obtain ⟨_, _, xs, eb, xl, xf⟩ := hg i b hb
          refine ⟨rfl, yesT ?_⟩
          refine ⟨_, rfl, b, xs, rfl, .inl ⟨SqL.of (S2 _ _ eb), fun z hz => ?_⟩⟩
          have nz : D ≠ z := ne_of_none ea hz
          refine ⟨us.map V.ref, by rw [upd_ne nz]; exact ea, by rw [List.length_map]; show us.length < 16777216; omega, fun c o ec => ?_, D0, us ++ [z], by rw [List.length_append, ul]; rfl, by rw [upd_same, List.map_append]; rfl, fun a u e => ?_⟩
          · rw [upd_ne (ne_of_none ec D0), upd_ne (ne_of_none (S2 _ _ ec) hz)]
            exact S2 _ _ ec
          · rcases Nat.lt_or_ge a us.length with q | q
            · rw [List.getElem?_append_left q] at e
              obtain ⟨n1, ys, w1, w2⟩ := hu a u e
              exact ⟨n1, ys, by rw [upd_ne n1, upd_ne (ne_of_none w1 hz)]; exact w1, w2⟩
            · have hq : a = i := by
                have := (List.getElem?_eq_some_iff.mp e).1
                rw [List.length_append] at this
                have l : [z].length = 1 := rfl
                omega
              subst hq
              rw [← ul, List.getElem?_append_right (Nat.le_refl _), Nat.sub_self] at e
              obtain rfl : z = u := Option.some.inj e
              refine ⟨nz.symm, xs, by rw [upd_ne nz.symm, upd_same], xl, fun b' hb' => ?_⟩
              rw [xf b' hb', fin a b' (by omega) hb']
        · rintro H2 ⟨S2, D0, us, ul, ea, hu⟩
          refine ⟨D, _, rfl, .inl ⟨SqL.of ea, fun z hz => ?_⟩⟩
          rw [List.length_map] at ul
          refine k _ z ((S1.trans S2).trans (new_same hz)) (Same.free (S1.trans S2) hz) ⟨us, upd_same, by omega, fun a u e => ?_⟩
          obtain ⟨_, xs, w1, w2, w3⟩ := hu a u e
          exact ⟨xs, (new_same hz) _ _ w1, by omega, fun b hb => w3 b (by omega)⟩
end
end J

set_option Elab.async false
set_option linter.all false
set_option maxRecDepth 100000
set_option maxHeartbeats 4000000
namespace J
open PySem PySem.Spec PyProof.Rows L2
/-! ### a company is made -/
theorem dc_enumT {K : PySem.W.Frag} {a : Addr} {xs : List V} {g : TG} {tt : TT} {tk tv : TE} {vs : List Nat} {σ : L2.St} {H1 : Hp} {D : Addr} {Qd : Hp → Prop} (Pv : Nat → Hp → Prop) (h0 : Pv 0 (upd H1 D (.dK []))) (hl : ∀ i H, i ≤ xs.length → Pv i H → SqT K H a xs)
    (hs : ∀ i x H T, xs[i]? = some x → Pv i H → H T = none → g (.ref T) (wipe σ vs) (upd H T (.tup [.int (i : Nat), x])) fun σ2 H2 => wipe σ2 vs = wipe σ vs ∧ tt σ2 H2 fun b H3 =>
      if b = true then tk σ2 H3 fun y H4 => tv σ2 H4 fun z H5 => ∃ kvs k, y = kV k ∧ H5 D = some (.dK kvs) ∧ kvs.length < sizeLine ∧ Pv (i + 1) (upd H5 D (.dK (putK kvs k z))) else Pv (i + 1) H3) (hd : ∀ H, Pv xs.length H → Qd H) :
    ∃ W : Nat → Nat → Hp → Prop, (∃ m, W 0 m (upd H1 D (.dK []))) ∧ ∀ i m H, W i m H →
      ((Itet K a).stop i H ∧ Qd H) ∨ ((Itet K a).go i H ∧ ∃ Nx : Hp → Prop, (∀ H', Nx H' → ∃ m', m' < m ∧ W (i + 1) m' H') ∧ ∀ x H', (Itet K a).yld i H x H' → g x (wipe σ vs) H' fun σ2 H2 => wipe σ2 vs = wipe σ vs ∧ tt σ2 H2 fun b H3 =>
        if b = true then tk σ2 H3 fun y H4 => tv σ2 H4 fun z H5 => ∃ kvs k, y = kV k ∧ H5 D = some (.dK kvs) ∧ kvs.length < sizeLine ∧ Nx (upd H5 D (.dK (putK kvs k z))) else Nx H3) := by
  refine ⟨fun i m H => m = xs.length - i ∧ i ≤ xs.length ∧ Pv i H, ⟨xs.length, by simp, Nat.zero_le _, h0⟩, ?_⟩
  rintro i m H ⟨rfl, hi, p⟩
  have q := hl i H hi p
  by_cases hlt : i < xs.length
  · refine .inr ⟨⟨xs, xs[i], q, by simp [hlt]⟩, Pv (i + 1), fun H' p' => ⟨xs.length - (i + 1), by omega, rfl, hlt, p'⟩, ?_⟩
    rintro x H' ⟨T, y, rfl, hT, rfl, hy⟩
    exact hs i y H T (hy xs q) p hT
  · have e : i = xs.length := by omega
    subst e
    exact .inl ⟨⟨xs, q, rfl⟩, hd H p⟩
theorem ints_of : ∀ {xs : List V}, (∀ x ∈ xs, ∃ i, x = V.int i) → ∃ is : List Int, xs = is.map V.int
  | [], _ => ⟨[], rfl⟩
  | x :: xs, h => by
    obtain ⟨i, rfl⟩ := h x (List.mem_cons_self ..)
    obtain ⟨is, rfl⟩ := ints_of (xs := xs) fun y hy => h y (List.mem_cons_of_mem _ hy)
    exact ⟨i :: is, rfl⟩
/-- what a due of none says -/
structure GoodC (m : Nat) (g r : Sh) (ss : List Sh) : Prop where
  sq : ((g.isL || g.isT) && (r.isL || r.isT)) = true
  le : (items g).length ≤ 60
  ln : (items r).length ≤ (items g).length
  wd : ∀ j, j < (items g).length → wordC m (items g) ss j = none
theorem scan_get {f : Nat → Option Str} : ∀ {n : Nat}, scan f n = none → ∀ j, j < n → f j = none
  | 0, _, j, hj => absurd hj (Nat.not_lt_zero j)
  | n + 1, h, j, hj => by
    have h' : (match scan f n with | some r => some r | none => (f n).map fun w => (n, w)) = none := h
    cases e : scan f n with
    | some r => rw [e] at h'; cases h'
    | none =>
      rw [e] at h'
      rcases Nat.lt_or_ge j n with hl | hl
      · exact scan_get e j hl
      · obtain rfl : j = n := by omega
        cases e2 : f j with
        | none => rfl
        | some w => rw [e2] at h'; cases h'
theorem goodC_of {m : Nat} {g r : Sh} {ss : List Sh} (h : dueC m g r ss = none) : GoodC m g r ss := by
  unfold dueC at h
  by_cases h1 : ((g.isL || g.isT) && (r.isL || r.isT)) = true
  · rw [if_pos h1] at h
    by_cases h2 : (items g).length ≤ 60
    · rw [if_pos h2] at h
      cases e : scan (wordC m (items g) ss) (items g).length with
      | some p =>
        rw [e] at h
        cases h
      | none =>
        rw [e] at h
        have h' : (if (items g).length < (items r).length then some ((((items g).length : Nat) : Int), ("rows" : Str)) else none) = none := h
        by_cases h3 : (items g).length < (items r).length
        · rw [if_pos h3] at h'; cases h'
        · exact ⟨h1, h2, by omega, scan_get e⟩
    · rw [if_neg h2] at h; cases h
  · rw [if_neg h1] at h; cases h
theorem rowW_good {m n : Nat} {s : Sh} (h : rowW m n s = none) : (s.isL || s.isT) = true ∧ ∃ ts : List Int, items s = ts.map V.int ∧ ts.length = n ∧ ∀ t ∈ ts, 0 ≤ t ∧ t < (m : Nat) := by
  unfold rowW at h
  by_cases h1 : (s.isL || s.isT) = true
  · rw [if_pos h1] at h
    by_cases h2 : (items s).length = n
    · rw [if_pos h2] at h
      by_cases h3 : ∀ x ∈ items s, wholeB x 0 ((m : Nat) - 1) = true
      · obtain ⟨ts, e⟩ := ints_of fun x hx => let ⟨b, e, _⟩ := whole_int (h3 x hx); ⟨b, e⟩
        refine ⟨h1, ts, e, by rw [← h2, e, List.length_map], fun t ht => ?_⟩
        have q : V.int t ∈ items s := by rw [e]; exact List.mem_map.mpr ⟨t, ht, rfl⟩
        obtain ⟨b, eb, b0, b1⟩ := whole_int (h3 _ q)
        have : t = b := by injection eb
        subst this
        exact ⟨b0, by omega⟩
      · rw [if_neg h3] at h; cases h
    · rw [if_neg h2] at h; cases h
  · rw [if_neg h1] at h; cases h
theorem word_good {m j : Nat} {gs : List V} {ss : List Sh} {x : V} (hx : gs[j]? = some x) (h : wordC m gs ss j = none) : wholeB x 0 1000000000 = true ∧ ∃ s, ss[j]? = some s ∧ rowW m j s = none := by
  unfold wordC at h
  rw [hx] at h
  have h' : (if wholeB x 0 1000000000 = true then if ordB gs j = true then some ("order" : Str) else match ss[j]? with | none => some ("row" : Str) | some s => rowW m j s else some ("label" : Str)) = none := h
  by_cases h1 : wholeB x 0 1000000000 = true
  · rw [if_pos h1] at h'
    by_cases h2 : ordB gs j = true
    · rw [if_pos h2] at h'; cases h'
    · rw [if_neg h2] at h'
      cases e : ss[j]? with
      | none => rw [e] at h'; cases h'
      | some s => rw [e] at h'; exact ⟨h1, s, rfl, h'⟩
  · rw [if_neg h1] at h'; cases h'
/-- guests are ints -/
theorem GoodC.ints {m : Nat} {g r : Sh} {ss : List Sh} (h : GoodC m g r ss) : ∃ is : List Int, items g = is.map V.int := by
  refine ints_of fun x hx => ?_
  obtain ⟨j, hj⟩ := List.getElem?_of_mem hx
  obtain ⟨w, _⟩ := word_good hj (h.wd j (List.getElem?_eq_some_iff.mp hj).1)
  obtain ⟨b, e, _⟩ := whole_int w
  exact ⟨b, e⟩
theorem GoodC.row {m : Nat} {g r : Sh} {ss : List Sh} (h : GoodC m g r ss) {j : Nat} (hj : j < (items g).length) : ∃ s, ss[j]? = some s ∧ rowW m j s = none :=
  (word_good (List.getElem?_eq_getElem hj) (h.wd j hj)).2
theorem GoodC.full {m : Nat} {g r : Sh} {ss : List Sh} (h : GoodC m g r ss) : (items g).length ≤ ss.length := by
  rcases Nat.lt_or_ge ss.length (items g).length with c | c
  · obtain ⟨s, es, _⟩ := h.row (j := ss.length) c
    have := (List.getElem?_eq_some_iff.mp es).1
    omega
  · exact c
def toInts (xs : List V) : List Int := xs.filterMap fun | .int i => some i | _ => none
theorem toInts_map (is : List Int) : toInts (is.map V.int) = is := by
  unfold toInts
  rw [List.filterMap_map]
  exact List.filterMap_some
theorem GoodC.tss {m : Nat} {g r : Sh} {ss : List Sh} (h : GoodC m g r ss) (hl : ss.length ≤ (items g).length) : ∃ tss : List (List Int), tss.length = ss.length ∧ ∀ (j : Nat) (s : Sh) (ts : List Int), ss[j]? = some s → tss[j]? = some ts → items s = ts.map V.int ∧ ts.length = j ∧ ∀ t ∈ ts, 0 ≤ t ∧ t < (m : Nat) := by
  refine ⟨ss.map fun s => toInts (items s), by rw [List.length_map], fun j s ts es ets => ?_⟩
  have hj : j < ss.length := (List.getElem?_eq_some_iff.mp es).1
  rw [List.getElem?_map, es] at ets
  have q : toInts (items s) = ts := Option.some.inj ets
  obtain ⟨s', es', ew⟩ := h.row (j := j) (by omega)
  rw [es] at es'
  obtain rfl := Option.some.inj es'
  obtain ⟨_, ts', e1, e2, e3⟩ := rowW_good ew
  rw [e1, toInts_map] at q
  subst q
  exact ⟨e1, e2, e3⟩
/-- the class Company in the written part -/
structure CoC (K : PySem.W.Frag) (C : Addr) : Prop where
  cl : Cls K C
  nT : NoAttr K C "ties"
  nG : NoAttr K C "guests"
  nR : NoAttr K C "rows"
  nB : NoAttr K C "table"
  nP : NoAttr K C "_places"
def f1 (t : Addr) : List (Str × V) := putF "ties" (.ref t) []
def f2 (t g : Addr) : List (Str × V) := putF "guests" (.ref g) (f1 t)
def f3 (t g r : Addr) : List (Str × V) := putF "rows" (.ref r) (f2 t g)
def f4 (t g r b : Addr) : List (Str × V) := putF "table" (.ref b) (f3 t g r)
def cf (t g r b p : Addr) : List (Str × V) := putF "_places" (.ref p) (f4 t g r b)
theorem l1 (t : Addr) : (f1 t).length < 1000 := Nat.lt_of_le_of_lt (length_putF _ _ _) (by decide)
theorem l2' {f : Str} {v : V} {fs : List (Str × V)} {n : Nat} (h : fs.length ≤ n) : (putF f v fs).length ≤ n + 1 := Nat.le_trans (length_putF _ _ _) (by omega)
theorem l2 (t g : Addr) : (f2 t g).length < 1000 := Nat.lt_of_le_of_lt (l2' (n := 1) (l2' (n := 0) (Nat.le_refl _))) (by decide)
theorem l3 (t g r : Addr) : (f3 t g r).length < 1000 := Nat.lt_of_le_of_lt (l2' (n := 2) (l2' (n := 1) (l2' (n := 0) (Nat.le_refl _)))) (by decide)
theorem l4 (t g r b : Addr) : (f4 t g r b).length < 1000 := Nat.lt_of_le_of_lt (l2' (n := 3) (l2' (n := 2) (l2' (n := 1) (l2' (n := 0) (Nat.le_refl _))))) (by decide)
theorem ne_ties_guests : ¬ (("ties" : Str) = "guests") := by decide +kernel
theorem ne_ties_rows : ¬ (("ties" : Str) = "rows") := by decide +kernel
theorem ne_ties_table : ¬ (("ties" : Str) = "table") := by decide +kernel
theorem ne_ties__places : ¬ (("ties" : Str) = "_places") := by decide +kernel
theorem ne_guests_ties : ¬ (("guests" : Str) = "ties") := by decide +kernel
theorem ne_guests_rows : ¬ (("guests" : Str) = "rows") := by decide +kernel
theorem ne_guests_table : ¬ (("guests" : Str) = "table") := by decide +kernel
theorem ne_guests__places : ¬ (("guests" : Str) = "_places") := by decide +kernel
theorem ne_rows_ties : ¬ (("rows" : Str) = "ties") := by decide +kernel
theorem ne_rows_guests : ¬ (("rows" : Str) = "guests") := by decide +kernel
theorem ne_rows_table : ¬ (("rows" : Str) = "table") := by decide +kernel
theorem ne_rows__places : ¬ (("rows" : Str) = "_places") := by decide +kernel
theorem ne_table_ties : ¬ (("table" : Str) = "ties") := by decide +kernel
theorem ne_table_guests : ¬ (("table" : Str) = "guests") := by decide +kernel
theorem ne_table_rows : ¬ (("table" : Str) = "rows") := by decide +kernel
theorem ne_table__places : ¬ (("table" : Str) = "_places") := by decide +kernel
theorem ne__places_ties : ¬ (("_places" : Str) = "ties") := by decide +kernel
theorem ne__places_guests : ¬ (("_places" : Str) = "guests") := by decide +kernel
theorem ne__places_rows : ¬ (("_places" : Str) = "rows") := by decide +kernel
theorem ne__places_table : ¬ (("_places" : Str) = "table") := by decide +kernel
theorem f3_rows (t g r : Addr) : (f3 t g r).lookup ("rows" : Str) = some (.ref r) := by
  unfold f3
  rw [lookup_putF, if_pos rfl]
theorem f4_guests (t g r b : Addr) : (f4 t g r b).lookup ("guests" : Str) = some (.ref g) := by
  unfold f4 f3 f2
  rw [lookup_putF, if_neg ne_guests_table, lookup_putF, if_neg ne_guests_rows, lookup_putF, if_pos rfl]
theorem cf_guests (t g r b p : Addr) : (cf t g r b p).lookup ("guests" : Str) = some (.ref g) := by
  unfold cf
  rw [lookup_putF, if_neg ne_guests__places, f4_guests]
theorem cf_rows (t g r b p : Addr) : (cf t g r b p).lookup ("rows" : Str) = some (.ref r) := by
  unfold cf f4
  rw [lookup_putF, if_neg ne_rows__places, lookup_putF, if_neg ne_rows_table, f3_rows]
theorem TiesAt.ne {C CC : Addr} {H : Hp} {x dx t : Addr} {ns : List Int} (h : TiesAt C H t ns) (hx : H x = some (.ins CC dx [])) : t ≠ x := by
  obtain ⟨d, tb, e, _⟩ := h
  refine ne_of e hx fun z => ?_
  injection z with _ _ z
  have q := tf_backs tb (ns.length : Nat)
  rw [z] at q
  cases q
theorem TiesAt.but {C : Addr} {H H' : Hp} {x t CC dx : Addr} {ns : List Int} (h : TiesAt C H t ns) (hx : H x = some (.ins CC dx [])) (B : ∀ b o, b ≠ x → H b = some o → H' b = some o) : TiesAt C H' t ns := by
  have nt := h.ne hx
  obtain ⟨d, tb, e, e2⟩ := h
  exact ⟨d, tb, B _ _ nt e, B _ _ (ne_of e2 hx (by intro z; cases z)) e2⟩
theorem word_ord {m j : Nat} {gs : List V} {ss : List Sh} {x : V} (hx : gs[j]? = some x) (h : wordC m gs ss j = none) : ordB gs j = false := by
  obtain ⟨w, _⟩ := word_good hx h
  cases e : ordB gs j with
  | false => rfl
  | true => rw [word_order hx w e] at h; cases h
/-- one after another -/
def Asc (is : List Int) : Prop := ∀ (i : Nat) (a b : Int), is[i]? = some a → is[i + 1]? = some b → a < b
theorem Asc.lt {is : List Int} (h : Asc is) : ∀ (d i : Nat) (a b : Int), is[i]? = some a → is[i + 1 + d]? = some b → a < b
  | 0, i, a, b, e1, e2 => h i a b e1 e2
  | d + 1, i, a, b, e1, e2 => by
    have hl := (List.getElem?_eq_some_iff.mp e2).1
    have e3 := List.getElem?_eq_getElem (l := is) (i := i + 1 + d) (by omega)
    have q := Asc.lt h d i a _ e1 e3
    have r := h (i + 1 + d) _ b e3 e2
    omega
theorem Asc.inj {is : List Int} (h : Asc is) {i j : Nat} {a : Int} (e1 : is[i]? = some a) (e2 : is[j]? = some a) : i = j := by
  rcases Nat.lt_trichotomy i j with q | q | q
  · have := h.lt (j - i - 1) i a a e1 (by rw [show i + 1 + (j - i - 1) = j by omega]; exact e2)
    omega
  · exact q
  · have := h.lt (i - j - 1) j a a e2 (by rw [show j + 1 + (i - j - 1) = i by omega]; exact e1)
    omega
theorem GoodC.asc {m : Nat} {g r : Sh} {ss : List Sh} (h : GoodC m g r ss) {is : List Int} (e : items g = is.map V.int) : Asc is := fun i a b e1 e2 => by
  have h1 : (items g)[i]? = some (.int a) := by rw [e]; exact ints_at e1
  have h2 : (items g)[i + 1]? = some (.int b) := by rw [e]; exact ints_at e2
  have o := word_ord h2 (h.wd _ (List.getElem?_eq_some_iff.mp h2).1)
  rw [ord_ints h1 h2] at o
  have := of_decide_eq_false o
  omega
theorem GoodC.labels {m : Nat} {g r : Sh} {ss : List Sh} (h : GoodC m g r ss) {is : List Int} (e : items g = is.map V.int) : ∀ n ∈ is, 0 ≤ n ∧ n ≤ 1000000000 := fun n hn => by
  obtain ⟨j, hj⟩ := List.getElem?_of_mem hn
  have h1 : (items g)[j]? = some (.int n) := by rw [e]; exact ints_at hj
  obtain ⟨w, _⟩ := word_good h1 (h.wd j (List.getElem?_eq_some_iff.mp h1).1)
  obtain ⟨b, eb, b0, b1⟩ := whole_int w
  have : n = b := by injection eb
  omega
/-- where a label stands among the guests -/
def place (is : List Int) (k : Key) : Option V := match k with
  | .inl x => (is.findIdx? fun y => decide (y = x)).map fun j => V.int (j : Nat)
  | .inr _ => none
theorem place_next {is : List Int} {i : Nat} {n : Int} (h : is[i]? = some n) (a : Asc is) (k : Key) : place (is.take (i + 1)) k = if k = .inl n then some (.int (i : Nat)) else place (is.take i) k := by
  have e : is.take (i + 1) = is.take i ++ [n] := by rw [List.take_add_one, h]; rfl
  have hi : i < is.length := (List.getElem?_eq_some_iff.mp h).1
  have hl : (is.take i).length = i := by rw [List.length_take]; omega
  cases k with
  | inr s => rw [if_neg (by intro z; cases z)]; rfl
  | inl x =>
    by_cases c : x = n
    · subst c
      rw [if_pos rfl]
      have no : (is.take i).findIdx? (fun y => decide (y = x)) = none := by
        rw [List.findIdx?_eq_none_iff]
        intro y hy
        obtain ⟨j, hj⟩ := List.getElem?_of_mem hy
        have jl := (List.getElem?_eq_some_iff.mp hj).1
        rw [hl] at jl
        rw [List.getElem?_take_of_lt jl] at hj
        exact decide_eq_false fun q => by subst q; have := a.inj hj h; omega
      show Option.map _ ((is.take (i + 1)).findIdx? _) = _
      rw [e, List.findIdx?_append, no]
      simp [hl]
    · rw [if_neg (fun z => c (by injection z))]
      show ((is.take (i + 1)).findIdx? _).map _ = ((is.take i).findIdx? _).map _
      rw [e, List.findIdx?_append]
      simp [fun z => c (Eq.symm z)]
      cases (is.take i).findIdx? (fun y => decide (y = x)) <;> simp [Ne.symm c]
/-- a company at x: its Ties, its guests, its rows, its table, its places -/
def CompAt (C CC : Addr) (H : Hp) (x : Addr) (ns is : List Int) (tss : List (List Int)) : Prop := ∃ (dx t g r b p : Addr) (ps : List Addr) (kvs : List (Key × V)), H x = some (.ins CC dx (cf t g r b p)) ∧ TiesAt C H t ns ∧ H g = some (.tup (is.map V.int)) ∧ RowsAt H r ns.length ps tss ∧ TableAt H b ns tss ∧ H p = some (.dK kvs) ∧ (∀ k, valV kvs k = place is k) ∧ Asc is ∧ tss.length = is.length ∧ is.length ≤ 60 ∧ ∀ n ∈ is, 0 ≤ n ∧ n ≤ 1000000000
theorem CompAt.keep {C CC : Addr} {H H' : Hp} {x : Addr} {ns is : List Int} {tss : List (List Int)} (h : CompAt C CC H x ns is tss) (S : Same H H') : CompAt C CC H' x ns is tss := by
  obtain ⟨dx, t, g, r, b, p, ps, kvs, a1, a2, a3, a4, a5, a6, a7⟩ := h
  exact ⟨dx, t, g, r, b, p, ps, kvs, S _ _ a1, a2.keep S, S _ _ a3, a4.keep S, a5.keep S, S _ _ a6, a7⟩
abbrev s_Company_init : Stmt := inClass (top 17) 0
theorem sc_Company_init : FnScope ["self", "ties", "guests", "rows", "row", "place", "label"] ["self", "ties", "guests", "rows"] (defScope s_Company_init) := ⟨rfl, rfl, rfl, by decide +kernel, rfl, by decide +kernel, by decide +kernel⟩
def spCompI (C CC CB : Addr) : Sp := fun vs H Q E => ∃ (x dx t : Addr) (ns : List Int) (g r : V) (sg sr : Sh) (ss : List Sh), vs = [.ref x, .ref t, g, r] ∧ H x = some (.ins CC dx []) ∧ TiesAt C H t ns ∧ Is H g sg ∧ Known H (items sg) ∧ Is H r sr ∧ ShAll H (items sr) ss ∧ (items sg).length ≤ 1000 ∧
  (∀ i u, dueC ns.length sg sr ss = some (i, u) → Tells2 H CB "index" "what" (.int i) (.str u) E) ∧ (dueC ns.length sg sr ss = none → ∀ (H' : Hp) (is : List Int) (tss : List (List Int)), (∀ b o, b ≠ x → H b = some o → H' b = some o) → items sg = is.map V.int → Asc is → tss.length = is.length → (∀ (j : Nat) (s : Sh) (ts : List Int), ss[j]? = some s → tss[j]? = some ts → items s = ts.map V.int) → CompAt C CC H' x ns is tss → Q .non H')
section
variable {P : Program} {w : World} {K : PySem.W.Frag} {mg : Str → Option Value} {base : Heap}
theorem ok_Company_init {f C CC CB fK fT : Addr} {fd fdK fdT : FuncData} {dvs : List V} (F : FunD K "__init__" "Company.__init__" (defArgs s_Company_init) (defBody s_Company_init) (defScope s_Company_init) dvs [] f fd) (c : CoC K CC) (nt : mg "tuple" = none) (ne : mg "enumerate" = none)
    (GK : Cal P w K mg base (L2.CX P w) 4 "_check_company" fK fdK ["ties", "guests", "rows"] (spCC C CB)) (GT : Cal P w K mg base CX0 1 "_table_of" fT fdT ["ties", "rows"] (spTable C)) : FnOk P w K mg base (L2.CX P w) 5 f fd ["self", "ties", "guests", "rows"] (spCompI C CC CB) := by
  refine F.ok sc_Company_init (fun vs H Q E h => ?_) (fun cdv A outer s H vs Q E hr h => ?_)
  · obtain ⟨x, dx, t, ns, g, r, sg, sr, ss, rfl, _⟩ := h
    rfl
  · obtain ⟨x, dx, t, ns, g, r, sg, sr, ss, rfl, hx, hT, hg, kg, hrr, hs, lg, k1, k2⟩ := h
    cases sg with
    | sc u =>
      refine ⟨_, (pss_cons 
  (ps_expr (pcal GK hr (passes_call (takes_of rfl rfl rfl rfl) (fun _ _ _ _ h => h)) (pa_cons (pv 1) (pa_cons (pv 2) (pa_cons (pv 3) pa_nil))))) (pss_cons 
  (ps_fld (pv 0) (pv 1) rfl) (pss_cons 
  (ps_fld (pv 0) (pe_callTy (T := "tuple") (r := rTup K) call_tuple_of (by rfl) nt (by decide +kernel) (pa_cons (pv 2) pa_nil)) rfl) (pss_cons 
  (ps_fld (pv 0) (pe_callTy (T := "tuple") (r := rTup K) call_tuple_of (by rfl) nt (by decide +kernel) (pa_cons (pe_lc (own := [("row", 4)]) (g := gName 4) (by rfl) sc_Company_init.nd (pi_list (pv 3)) (blkOk_by (own := [("row", 4)]) (N := ["self", "ties", "guests", "rows", "row", "place", "label"]) (sc := defScope s_Company_init) (by decide +kernel)) (fun _ _ _ _ _ => pg_name (i := 4) sc_Company_init.nd rfl (Or.inl rfl)) (fun _ _ _ _ _ => pts_nil) (fun _ _ _ _ _ => (pe_callTy (T := "tuple") (r := rTup K) call_tuple_of (by rfl) nt (by decide +kernel) (pa_cons (pv 4) pa_nil)))) pa_nil)) rfl) (pss_cons 
  (ps_fld (pv 0) (pcal GT hr pass0 (pa_cons (pv 1) (pa_cons (pe_fld (pv 0) rfl) pa_nil))) rfl) (pss_one 
  (ps_fld (pv 0) (pe_dc (own := [("place", 5), ("label", 6)]) (g := gTup K 2 (gCons (gName 5) (gCons (gName 6) gNil))) (by rfl) sc_Company_init.nd (pi_enumT (by rfl) ne (pa_cons (pe_fld (pv 0) rfl) pa_nil)) (blkOk_by (own := [("place", 5), ("label", 6)]) (N := ["self", "ties", "guests", "rows", "row", "place", "label"]) (sc := defScope s_Company_init) (by decide +kernel)) (fun _ _ _ _ _ => pg_tup (by rfl) (pgs_cons (pg_name (i := 5) sc_Company_init.nd rfl (Or.inl rfl)) (pgs_cons (pg_name (i := 6) sc_Company_init.nd rfl (Or.inl rfl)) pgs_nil))) (fun _ _ _ _ _ => pts_nil) (fun _ _ _ _ _ => pv 6) (fun _ _ _ _ _ => pv 5)) rfl))))))), ?_⟩
      exact ⟨_, rfl, _, rfl, _, rfl, t, ns, g, r, .sc u, sr, ss, rfl, hT, hg, kg, hrr, hs, lg, k1, fun hd => nomatch (goodC_of hd).sq⟩
    | dk =>
      refine ⟨_, (pss_cons 
  (ps_expr (pcal GK hr (passes_call (takes_of rfl rfl rfl rfl) (fun _ _ _ _ h => h)) (pa_cons (pv 1) (pa_cons (pv 2) (pa_cons (pv 3) pa_nil))))) (pss_cons 
  (ps_fld (pv 0) (pv 1) rfl) (pss_cons 
  (ps_fld (pv 0) (pe_callTy (T := "tuple") (r := rTup K) call_tuple_of (by rfl) nt (by decide +kernel) (pa_cons (pv 2) pa_nil)) rfl) (pss_cons 
  (ps_fld (pv 0) (pe_callTy (T := "tuple") (r := rTup K) call_tuple_of (by rfl) nt (by decide +kernel) (pa_cons (pe_lc (own := [("row", 4)]) (g := gName 4) (by rfl) sc_Company_init.nd (pi_list (pv 3)) (blkOk_by (own := [("row", 4)]) (N := ["self", "ties", "guests", "rows", "row", "place", "label"]) (sc := defScope s_Company_init) (by decide +kernel)) (fun _ _ _ _ _ => pg_name (i := 4) sc_Company_init.nd rfl (Or.inl rfl)) (fun _ _ _ _ _ => pts_nil) (fun _ _ _ _ _ => (pe_callTy (T := "tuple") (r := rTup K) call_tuple_of (by rfl) nt (by decide +kernel) (pa_cons (pv 4) pa_nil)))) pa_nil)) rfl) (pss_cons 
  (ps_fld (pv 0) (pcal GT hr pass0 (pa_cons (pv 1) (pa_cons (pe_fld (pv 0) rfl) pa_nil))) rfl) (pss_one 
  (ps_fld (pv 0) (pe_dc (own := [("place", 5), ("label", 6)]) (g := gTup K 2 (gCons (gName 5) (gCons (gName 6) gNil))) (by rfl) sc_Company_init.nd (pi_enumT (by rfl) ne (pa_cons (pe_fld (pv 0) rfl) pa_nil)) (blkOk_by (own := [("place", 5), ("label", 6)]) (N := ["self", "ties", "guests", "rows", "row", "place", "label"]) (sc := defScope s_Company_init) (by decide +kernel)) (fun _ _ _ _ _ => pg_tup (by rfl) (pgs_cons (pg_name (i := 5) sc_Company_init.nd rfl (Or.inl rfl)) (pgs_cons (pg_name (i := 6) sc_Company_init.nd rfl (Or.inl rfl)) pgs_nil))) (fun _ _ _ _ _ => pts_nil) (fun _ _ _ _ _ => pv 6) (fun _ _ _ _ _ => pv 5)) rfl))))))), ?_⟩
      exact ⟨_, rfl, _, rfl, _, rfl, t, ns, g, r, .dk, sr, ss, rfl, hT, hg, kg, hrr, hs, lg, k1, fun hd => nomatch (goodC_of hd).sq⟩
    | lst gs =>
      cases sr with
      | sc u =>
        refine ⟨_, (pss_cons 
  (ps_expr (pcal GK hr (passes_call (takes_of rfl rfl rfl rfl) (fun _ _ _ _ h => h)) (pa_cons (pv 1) (pa_cons (pv 2) (pa_cons (pv 3) pa_nil))))) (pss_cons 
  (ps_fld (pv 0) (pv 1) rfl) (pss_cons 
  (ps_fld (pv 0) (pe_callTy (T := "tuple") (r := rTup K) call_tuple_of (by rfl) nt (by decide +kernel) (pa_cons (pv 2) pa_nil)) rfl) (pss_cons 
  (ps_fld (pv 0) (pe_callTy (T := "tuple") (r := rTup K) call_tuple_of (by rfl) nt (by decide +kernel) (pa_cons (pe_lc (own := [("row", 4)]) (g := gName 4) (by rfl) sc_Company_init.nd (pi_list (pv 3)) (blkOk_by (own := [("row", 4)]) (N := ["self", "ties", "guests", "rows", "row", "place", "label"]) (sc := defScope s_Company_init) (by decide +kernel)) (fun _ _ _ _ _ => pg_name (i := 4) sc_Company_init.nd rfl (Or.inl rfl)) (fun _ _ _ _ _ => pts_nil) (fun _ _ _ _ _ => (pe_callTy (T := "tuple") (r := rTup K) call_tuple_of (by rfl) nt (by decide +kernel) (pa_cons (pv 4) pa_nil)))) pa_nil)) rfl) (pss_cons 
  (ps_fld (pv 0) (pcal GT hr pass0 (pa_cons (pv 1) (pa_cons (pe_fld (pv 0) rfl) pa_nil))) rfl) (pss_one 
  (ps_fld (pv 0) (pe_dc (own := [("place", 5), ("label", 6)]) (g := gTup K 2 (gCons (gName 5) (gCons (gName 6) gNil))) (by rfl) sc_Company_init.nd (pi_enumT (by rfl) ne (pa_cons (pe_fld (pv 0) rfl) pa_nil)) (blkOk_by (own := [("place", 5), ("label", 6)]) (N := ["self", "ties", "guests", "rows", "row", "place", "label"]) (sc := defScope s_Company_init) (by decide +kernel)) (fun _ _ _ _ _ => pg_tup (by rfl) (pgs_cons (pg_name (i := 5) sc_Company_init.nd rfl (Or.inl rfl)) (pgs_cons (pg_name (i := 6) sc_Company_init.nd rfl (Or.inl rfl)) pgs_nil))) (fun _ _ _ _ _ => pts_nil) (fun _ _ _ _ _ => pv 6) (fun _ _ _ _ _ => pv 5)) rfl))))))), ?_⟩
        exact ⟨_, rfl, _, rfl, _, rfl, t, ns, _, _, .lst gs, .sc u, ss, rfl, hT, hg, kg, hrr, hs, lg, k1, fun hd => nomatch (goodC_of hd).sq⟩
      | dk =>
        refine ⟨_, (pss_cons 
  (ps_expr (pcal GK hr (passes_call (takes_of rfl rfl rfl rfl) (fun _ _ _ _ h => h)) (pa_cons (pv 1) (pa_cons (pv 2) (pa_cons (pv 3) pa_nil))))) (pss_cons 
  (ps_fld (pv 0) (pv 1) rfl) (pss_cons 
  (ps_fld (pv 0) (pe_callTy (T := "tuple") (r := rTup K) call_tuple_of (by rfl) nt (by decide +kernel) (pa_cons (pv 2) pa_nil)) rfl) (pss_cons 
  (ps_fld (pv 0) (pe_callTy (T := "tuple") (r := rTup K) call_tuple_of (by rfl) nt (by decide +kernel) (pa_cons (pe_lc (own := [("row", 4)]) (g := gName 4) (by rfl) sc_Company_init.nd (pi_list (pv 3)) (blkOk_by (own := [("row", 4)]) (N := ["self", "ties", "guests", "rows", "row", "place", "label"]) (sc := defScope s_Company_init) (by decide +kernel)) (fun _ _ _ _ _ => pg_name (i := 4) sc_Company_init.nd rfl (Or.inl rfl)) (fun _ _ _ _ _ => pts_nil) (fun _ _ _ _ _ => (pe_callTy (T := "tuple") (r := rTup K) call_tuple_of (by rfl) nt (by decide +kernel) (pa_cons (pv 4) pa_nil)))) pa_nil)) rfl) (pss_cons 
  (ps_fld (pv 0) (pcal GT hr pass0 (pa_cons (pv 1) (pa_cons (pe_fld (pv 0) rfl) pa_nil))) rfl) (pss_one 
  (ps_fld (pv 0) (pe_dc (own := [("place", 5), ("label", 6)]) (g := gTup K 2 (gCons (gName 5) (gCons (gName 6) gNil))) (by rfl) sc_Company_init.nd (pi_enumT (by rfl) ne (pa_cons (pe_fld (pv 0) rfl) pa_nil)) (blkOk_by (own := [("place", 5), ("label", 6)]) (N := ["self", "ties", "guests", "rows", "row", "place", "label"]) (sc := defScope s_Company_init) (by decide +kernel)) (fun _ _ _ _ _ => pg_tup (by rfl) (pgs_cons (pg_name (i := 5) sc_Company_init.nd rfl (Or.inl rfl)) (pgs_cons (pg_name (i := 6) sc_Company_init.nd rfl (Or.inl rfl)) pgs_nil))) (fun _ _ _ _ _ => pts_nil) (fun _ _ _ _ _ => pv 6) (fun _ _ _ _ _ => pv 5)) rfl))))))), ?_⟩
        exact ⟨_, rfl, _, rfl, _, rfl, t, ns, _, _, .lst gs, .dk, ss, rfl, hT, hg, kg, hrr, hs, lg, k1, fun hd => nomatch (goodC_of hd).sq⟩
      | lst rs =>
        obtain ⟨pg, rfl, hp⟩ := hg
        obtain ⟨pr, rfl, hq⟩ := hrr
        refine ⟨_, (pss_cons 
    (ps_expr (pcal GK hr (passes_call (takes_of rfl rfl rfl rfl) (fun _ _ _ _ h => h)) (pa_cons (pv 1) (pa_cons (pv 2) (pa_cons (pv 3) pa_nil))))) (pss_cons 
    (ps_fld (pv 0) (pv 1) rfl) (pss_cons 
    (ps_fld (pv 0) (pe_callTy (T := "tuple") (r := rTup K) call_tuple_of (by rfl) nt (by decide +kernel) (pa_cons (pv 2) pa_nil)) rfl) (pss_cons 
    (ps_fld (pv 0) (pe_callTy (T := "tuple") (r := rTup K) call_tuple_of (by rfl) nt (by decide +kernel) (pa_cons (pe_lc (own := [("row", 4)]) (g := gName 4) (by rfl) sc_Company_init.nd (pi_list (pv 3)) (blkOk_by (own := [("row", 4)]) (N := ["self", "ties", "guests", "rows", "row", "place", "label"]) (sc := defScope s_Company_init) (by decide +kernel)) (fun _ _ _ _ _ => pg_name (i := 4) sc_Company_init.nd rfl (Or.inl rfl)) (fun _ _ _ _ _ => pts_nil) (fun _ _ _ _ _ => (pe_callTy (T := "tuple") (r := rTup K) call_tuple_of (by rfl) nt (by decide +kernel) (pa_cons (pv 4) pa_nil)))) pa_nil)) rfl) (pss_cons 
    (ps_fld (pv 0) (pcal GT hr pass0 (pa_cons (pv 1) (pa_cons (pe_fld (pv 0) rfl) pa_nil))) rfl) (pss_one 
    (ps_fld (pv 0) (pe_dc (own := [("place", 5), ("label", 6)]) (g := gTup K 2 (gCons (gName 5) (gCons (gName 6) gNil))) (by rfl) sc_Company_init.nd (pi_enumT (by rfl) ne (pa_cons (pe_fld (pv 0) rfl) pa_nil)) (blkOk_by (own := [("place", 5), ("label", 6)]) (N := ["self", "ties", "guests", "rows", "row", "place", "label"]) (sc := defScope s_Company_init) (by decide +kernel)) (fun _ _ _ _ _ => pg_tup (by rfl) (pgs_cons (pg_name (i := 5) sc_Company_init.nd rfl (Or.inl rfl)) (pgs_cons (pg_name (i := 6) sc_Company_init.nd rfl (Or.inl rfl)) pgs_nil))) (fun _ _ _ _ _ => pts_nil) (fun _ _ _ _ _ => pv 6) (fun _ _ _ _ _ => pv 5)) rfl))))))), ?_⟩
        refine ⟨_, rfl, _, rfl, _, rfl, t, ns, _, _, Sh.lst gs, Sh.lst rs, ss, rfl, hT, ⟨pg, rfl, hp⟩, kg, ⟨pr, rfl, hq⟩, hs, lg, k1, fun hd H1 S1 => ?_⟩
        have G := goodC_of hd
        have hx1 := S1 _ _ hx
        have hp1 := S1 _ _ hp
        have hq1 := S1 _ _ hq
        have hT1 := hT.keep S1
        obtain ⟨is, kin⟩ := G.ints
        have asc := G.asc kin
        have labs := G.labels kin
        have kin' : gs = is.map V.int := kin
        have gful : gs.length ≤ ss.length := G.full
        obtain ⟨tss, tlen, htss⟩ : ∃ tss : List (List Int), tss.length = ss.length ∧ ∀ (j : Nat) (s : Sh) (ts : List Int), ss[j]? = some s → tss[j]? = some ts → items s = ts.map V.int ∧ ts.length = j ∧ ∀ t ∈ ts, 0 ≤ t ∧ t < (ns.length : Nat) := G.tss (by show ss.length ≤ gs.length; have := hs.len; have := G.ln; have : rs.length ≤ gs.length := G.ln; have : rs.length = ss.length := hs.len; omega)
        have gle : gs.length ≤ 60 := G.le
        have rle : rs.length ≤ gs.length := G.ln
        have npg : pg ≠ x := ne_of hp hx (by intro z; cases z)
        have sl : rs.length = ss.length := hs.len
        -- self.ties
        refine ⟨_, rfl, _, rfl, x, CC, dx, [], rfl, hx1, c.cl, c.nT, (by decide), ?_⟩
        have hx2 : (upd H1 x (.ins CC dx (putF "ties" (.ref t) []))) x = some (.ins CC dx (f1 t)) := upd_same
        have B2 : ∀ b o, b ≠ x → H b = some o → (upd H1 x (.ins CC dx (putF "ties" (.ref t) []))) b = some o := fun b o nb eb => by rw [upd_ne nb]; exact S1 _ _ eb
        have hp2 := B2 _ _ npg hp
        -- self.guests
        refine ⟨_, rfl, pg, gs, rfl, .inl ⟨SqL.of hp2, fun ga hga => ?_⟩⟩
        have nga : ga ≠ x := (ne_of_none hx2 hga).symm
        refine ⟨_, rfl, x, CC, dx, _, rfl, (by rw [upd_ne nga.symm]; exact hx2), c.cl, c.nG, l1 t, ?_⟩
        have hx3 : (upd (upd (upd H1 x (.ins CC dx (putF "ties" (.ref t) []))) ga (.tup gs)) x (.ins CC dx (putF "guests" (.ref ga) (f1 t)))) x = some (.ins CC dx (f2 t ga)) := upd_same
        have hg3 : (upd (upd (upd H1 x (.ins CC dx (putF "ties" (.ref t) []))) ga (.tup gs)) x (.ins CC dx (putF "guests" (.ref ga) (f1 t)))) ga = some (.tup gs) := by rw [upd_ne nga, upd_same]
        have B3 : ∀ b o, b ≠ x → H b = some o → (upd (upd (upd H1 x (.ins CC dx (putF "ties" (.ref t) []))) ga (.tup gs)) x (.ins CC dx (putF "guests" (.ref ga) (f1 t)))) b = some o := fun b o nb eb => by
          have e := B2 b o nb eb
          rw [upd_ne nb, upd_ne (ne_of_none e hga)]
          exact e
        generalize upd (upd (upd H1 x (.ins CC dx (putF "ties" (.ref t) []))) ga (.tup gs)) x (.ins CC dx (putF "guests" (.ref ga) (f1 t))) = H3 at hx3 hg3 B3
        -- self.rows
        have hq3 := B3 _ _ (ne_of hq hx (by intro z; cases z)) hq
        refine ⟨_, rfl, pr, rfl, ⟨_, SqL.of hq3⟩, fun D hD => ?_⟩
        refine lc_list (K := K) (a := pr) (xs := rs) (fun i H4 => Same H3 H4 ∧ H3 D = none ∧ ∃ ps : List Addr, ps.length = i ∧ H4 D = some (.lst (ps.map V.ref)) ∧ ∀ (j : Nat) (a : Addr) (s : Sh), ps[j]? = some a → ss[j]? = some s → H4 a = some (.tup (items s)))
          ⟨new_same hD, hD, [], rfl, upd_same, fun j a s e => nomatch e⟩ (fun i H4 _ ⟨S4, _⟩ => SqL.of (S4 _ _ hq3)) ?_ ?_
        · rintro i y H4 hy ⟨S4, D0, ps, pl, eD, hps⟩
          have hi : i < rs.length := (List.getElem?_eq_some_iff.mp hy).1
          obtain ⟨s, es, isy, _⟩ := hs.at_ hy
          obtain ⟨s', es', ew⟩ := G.row (j := i) (by show i < gs.length; omega)
          obtain rfl : s = s' := by rw [es] at es'; exact Option.some.inj es'
          obtain ⟨sq, _⟩ := rowW_good ew
          refine ⟨rfl, yesT ?_⟩
          have put : ∀ (H5 : Hp) (z : Addr), Same H4 H5 → H5 z = some (.tup (items s)) → ∃ acc : List V, H5 D = some (.lst acc) ∧ acc.length < sizeLine ∧ Same H3 (upd H5 D (.lst (acc ++ [.ref z]))) ∧ H3 D = none ∧ ∃ ps : List Addr, ps.length = i + 1 ∧ (upd H5 D (.lst (acc ++ [.ref z]))) D = some (.lst (ps.map V.ref)) ∧ ∀ (j : Nat) (a : Addr) (s : Sh), ps[j]? = some a → ss[j]? = some s → (upd H5 D (.lst (acc ++ [.ref z]))) a = some (.tup (items s)) := fun H5 z S5 ez => by
            refine ⟨_, S5 _ _ eD, by rw [List.length_map, pl]; show i < 16777216; omega, fun b o eb => ?_, D0, ps ++ [z], by rw [List.length_append, pl]; rfl, by rw [upd_same, List.map_append]; rfl, fun j a s2 ea e2 => ?_⟩
            · rw [upd_ne (ne_of_none eb D0)]
              exact S5 _ _ (S4 _ _ eb)
            · rcases Nat.lt_or_ge j ps.length with hj | hj
              · rw [List.getElem?_append_left hj] at ea
                have q := S5 _ _ (hps j a s2 ea e2)
                rw [upd_ne (ne_of q (S5 _ _ eD) (by intro z; cases z))]
                exact q
              · have hj2 : j = i := by
                  have := (List.getElem?_eq_some_iff.mp ea).1
                  rw [List.length_append] at this
                  have l : [z].length = 1 := rfl
                  omega
                subst hj2
                rw [← pl, List.getElem?_append_right (Nat.le_refl _), Nat.sub_self] at ea
                obtain rfl : z = a := Option.some.inj ea
                obtain rfl : s = s2 := by rw [es] at e2; exact Option.some.inj e2
                rw [upd_ne (ne_of ez (S5 _ _ eD) (by intro z; cases z))]
                exact ez
          cases s with
          | sc u => cases sq
          | dk => cases sq
          | lst ys =>
            obtain ⟨a, rfl, ea⟩ := isy
            refine ⟨_, rfl, a, ys, rfl, .inl ⟨SqL.of (S4 _ _ (B3 _ _ (ne_of ea hx (by intro z; cases z)) ea)), fun z hz => ?_⟩⟩
            exact put _ z (new_same hz) upd_same
          | tup ys =>
            obtain ⟨a, rfl, ea⟩ := isy
            have ea4 := S4 _ _ (B3 _ _ (ne_of ea hx (by intro z; cases z)) ea)
            exact ⟨_, rfl, a, ys, rfl, .inr ⟨SqT.of ea4, put _ a (Same.refl _) ea4⟩⟩
        · rintro H4 ⟨S4, D0, ps, pl, eD, hps⟩
          refine ⟨D, _, rfl, .inl ⟨SqL.of eD, fun ra hra => ?_⟩⟩
          have hx4 := S4 _ _ hx3
          have nra : ra ≠ x := (ne_of_none hx4 hra).symm
          refine ⟨_, rfl, x, CC, dx, _, rfl, (by rw [upd_ne nra.symm]; exact hx4), c.cl, c.nR, l2 t ga, ?_⟩
          have hx5 : (upd (upd H4 ra (.tup (ps.map V.ref))) x (.ins CC dx (putF "rows" (.ref ra) (f2 t ga)))) x = some (.ins CC dx (f3 t ga ra)) := upd_same
          have hr5 : (upd (upd H4 ra (.tup (ps.map V.ref))) x (.ins CC dx (putF "rows" (.ref ra) (f2 t ga)))) ra = some (.tup (ps.map V.ref)) := by rw [upd_ne nra, upd_same]
          have C5 : ∀ b o, b ≠ x → H4 b = some o → (upd (upd H4 ra (.tup (ps.map V.ref))) x (.ins CC dx (putF "rows" (.ref ra) (f2 t ga)))) b = some o := fun b o nb eb => by
            rw [upd_ne nb, upd_ne (ne_of_none eb hra)]
            exact eb
          generalize upd (upd H4 ra (.tup (ps.map V.ref))) x (.ins CC dx (putF "rows" (.ref ra) (f2 t ga))) = H5 at hx5 hr5 C5
          have B5 : ∀ b o, b ≠ x → H b = some o → H5 b = some o := fun b o nb eb => C5 b o nb (S4 _ _ (B3 b o nb eb))
          have hg5 := C5 _ _ (ne_of hg3 hx3 (by intro z; cases z)) (S4 _ _ hg3)
          have rows5 : ∀ (j : Nat) (a : Addr) (s : Sh), ps[j]? = some a → ss[j]? = some s → H5 a = some (.tup (items s)) := fun j a s ea e2 => by
            have q := hps j a s ea e2
            exact C5 _ _ (ne_of q hx4 (by intro z; cases z)) q
          have hT5 := hT.but hx B5
          have R5 : RowsAt H5 ra ns.length ps tss := ⟨hr5, by omega, fun j a ts ea ets => by
            have hj : j < ps.length := (List.getElem?_eq_some_iff.mp ea).1
            have es := List.getElem?_eq_getElem (l := ss) (i := j) (by omega)
            obtain ⟨e1, e2, e3⟩ := htss j _ ts es ets
            exact ⟨by rw [← e1]; exact rows5 j a _ ea es, e2, e3⟩⟩
          -- self.table
          refine ⟨_, rfl, _, rfl, x, CC, dx, _, _, rfl, hx5, c.cl, c.nR, f3_rows t ga ra, t, ra, ns, ps, tss, rfl, hT5, R5, by omega, fun H6 z S6 _ e6 => ?_⟩
          have hx6 := S6 _ _ hx5
          refine ⟨_, rfl, x, CC, dx, _, rfl, hx6, c.cl, c.nB, l3 t ga ra, ?_⟩
          have hx7 : (upd H6 x (.ins CC dx (putF "table" (.ref z) (f3 t ga ra)))) x = some (.ins CC dx (f4 t ga ra z)) := upd_same
          have C67 : ∀ b o, b ≠ x → H6 b = some o → (upd H6 x (.ins CC dx (putF "table" (.ref z) (f3 t ga ra)))) b = some o := fun b o nb eb => by
            rw [upd_ne nb]
            exact eb
          have C7 : ∀ b o, b ≠ x → H5 b = some o → (upd H6 x (.ins CC dx (putF "table" (.ref z) (f3 t ga ra)))) b = some o := fun b o nb eb => by
            rw [upd_ne nb]
            exact S6 _ _ eb
          generalize upd H6 x (.ins CC dx (putF "table" (.ref z) (f3 t ga ra))) = H7 at hx7 C7 C67
          have hg7 := C7 _ _ (ne_of hg5 hx5 (by intro z; cases z)) hg5
          have hr7 := C7 _ _ (ne_of hr5 hx5 (by intro z; cases z)) hr5
          -- self._places
          refine ⟨_, rfl, x, CC, dx, _, _, rfl, hx7, c.cl, c.nG, f4_guests t ga ra z, ga, gs, rfl, SqT.of hg7, fun D2 hD2 => ?_⟩
          refine dc_enumT (K := K) (a := ga) (xs := gs) (fun i H8 => Same H7 H8 ∧ H7 D2 = none ∧ ∃ kvs : List (Key × V), kvs.length ≤ i ∧ H8 D2 = some (.dK kvs) ∧ ∀ k, valV kvs k = place (is.take i) k) ⟨new_same hD2, hD2, [], Nat.le_refl _, upd_same, fun k => by cases k <;> rfl⟩ (fun i H8 _ ⟨S8, _⟩ => SqT.of (S8 _ _ hg7)) ?_ ?_
          · rintro i y H8 T hy ⟨S8, D0', kvs, kl, eK, vK⟩ hT8
            have hi : i < gs.length := (List.getElem?_eq_some_iff.mp hy).1
            obtain ⟨n, hn, rfl⟩ : ∃ n, is[i]? = some n ∧ y = V.int n := by
              rw [kin', List.getElem?_map] at hy
              cases e : is[i]? with
              | none => rw [e] at hy; cases hy
              | some n => rw [e] at hy; exact ⟨n, rfl, (Option.some.inj hy).symm⟩
            refine ⟨T, _, rfl, SqT.of upd_same, rfl, _, _, rfl, _, _, rfl, rfl, rfl, yesT ?_⟩
            refine ⟨_, rfl, _, rfl, kvs, .inl n, rfl, by rw [upd_ne (ne_of_none eK hT8)]; exact eK, by show kvs.length < 16777216; omega, fun b o eb => ?_, D0', _, Nat.le_trans (length_putK _ _ _) (by omega), upd_same, fun k => ?_⟩
            · rw [upd_ne (ne_of_none eb D0'), upd_ne (ne_of_none (S8 _ _ eb) hT8)]
              exact S8 _ _ eb
            · rw [valV_put, place_next hn asc, vK]
          · rintro H8 ⟨S8, D0', kvs, kl, eK, vK⟩
            have hx8 := S8 _ _ hx7
            have ln : is.length = gs.length := by rw [kin', List.length_map]
            rw [show is.take gs.length = is from by rw [← ln, List.take_length]] at vK
            refine ⟨_, rfl, x, CC, dx, _, rfl, hx8, c.cl, c.nP, l4 t ga ra z, ?_⟩
            have C9 : ∀ b o, b ≠ x → H5 b = some o → (upd H8 x (.ins CC dx (putF "_places" (.ref D2) (f4 t ga ra z)))) b = some o := fun b o nb eb => by
              rw [upd_ne nb]
              exact S8 _ _ (C7 b o nb eb)
            have B9 : ∀ b o, b ≠ x → H b = some o → (upd H8 x (.ins CC dx (putF "_places" (.ref D2) (f4 t ga ra z)))) b = some o := fun b o nb eb => C9 b o nb (B5 b o nb eb)
            have D9 : ∀ b o, b ≠ x → H6 b = some o → (upd H8 x (.ins CC dx (putF "_places" (.ref D2) (f4 t ga ra z)))) b = some o := fun b o nb eb => by
              rw [upd_ne nb]
              exact S8 _ _ (C67 b o nb eb)
            refine k2 hd _ is tss B9 kin asc (by rw [tlen]; omega) (fun j s ts e1 e2 => (htss j s ts e1 e2).1) ⟨dx, t, ga, ra, z, D2, ps, kvs, upd_same, hT.but hx B9, (by rw [← show gs = is.map V.int from kin]; exact C9 _ _ (ne_of hg5 hx5 (by intro z; cases z)) hg5), ⟨C9 _ _ (ne_of hr5 hx5 (by intro z; cases z)) hr5, R5.2.1, fun j a ts ea ets => ?_⟩, ?_, (by rw [upd_ne (ne_of eK hx8 (by intro z; cases z))]; exact eK), vK, asc, by rw [tlen]; omega, by omega, labs⟩
            · obtain ⟨q1, q2⟩ := R5.2.2 j a ts ea ets
              exact ⟨C9 _ _ (ne_of q1 hx5 (by intro z; cases z)) q1, q2⟩
            · obtain ⟨us, u1, u2, u3⟩ := e6
              refine ⟨us, D9 _ _ (ne_of u1 hx6 (by intro z; cases z)) u1, u2, fun a u e => ?_⟩
              obtain ⟨xs, w1, w2⟩ := u3 a u e
              exact ⟨xs, D9 _ _ (ne_of w1 hx6 (by intro z; cases z)) w1, w2⟩
      | tup rs =>
        obtain ⟨pg, rfl, hp⟩ := hg
        obtain ⟨pr, rfl, hq⟩ := hrr
        refine ⟨_, (pss_cons 
    (ps_expr (pcal GK hr (passes_call (takes_of rfl rfl rfl rfl) (fun _ _ _ _ h => h)) (pa_cons (pv 1) (pa_cons (pv 2) (pa_cons (pv 3) pa_nil))))) (pss_cons 
    (ps_fld (pv 0) (pv 1) rfl) (pss_cons 
    (ps_fld (pv 0) (pe_callTy (T := "tuple") (r := rTup K) call_tuple_of (by rfl) nt (by decide +kernel) (pa_cons (pv 2) pa_nil)) rfl) (pss_cons 
    (ps_fld (pv 0) (pe_callTy (T := "tuple") (r := rTup K) call_tuple_of (by rfl) nt (by decide +kernel) (pa_cons (pe_lc (own := [("row", 4)]) (g := gName 4) (by rfl) sc_Company_init.nd (pi_tup (pv 3)) (blkOk_by (own := [("row", 4)]) (N := ["self", "ties", "guests", "rows", "row", "place", "label"]) (sc := defScope s_Company_init) (by decide +kernel)) (fun _ _ _ _ _ => pg_name (i := 4) sc_Company_init.nd rfl (Or.inl rfl)) (fun _ _ _ _ _ => pts_nil) (fun _ _ _ _ _ => (pe_callTy (T := "tuple") (r := rTup K) call_tuple_of (by rfl) nt (by decide +kernel) (pa_cons (pv 4) pa_nil)))) pa_nil)) rfl) (pss_cons 
    (ps_fld (pv 0) (pcal GT hr pass0 (pa_cons (pv 1) (pa_cons (pe_fld (pv 0) rfl) pa_nil))) rfl) (pss_one 
    (ps_fld (pv 0) (pe_dc (own := [("place", 5), ("label", 6)]) (g := gTup K 2 (gCons (gName 5) (gCons (gName 6) gNil))) (by rfl) sc_Company_init.nd (pi_enumT (by rfl) ne (pa_cons (pe_fld (pv 0) rfl) pa_nil)) (blkOk_by (own := [("place", 5), ("label", 6)]) (N := ["self", "ties", "guests", "rows", "row", "place", "label"]) (sc := defScope s_Company_init) (by decide +kernel)) (fun _ _ _ _ _ => pg_tup (by rfl) (pgs_cons (pg_name (i := 5) sc_Company_init.nd rfl (Or.inl rfl)) (pgs_cons (pg_name (i := 6) sc_Company_init.nd rfl (Or.inl rfl)) pgs_nil))) (fun _ _ _ _ _ => pts_nil) (fun _ _ _ _ _ => pv 6) (fun _ _ _ _ _ => pv 5)) rfl))))))), ?_⟩
        refine ⟨_, rfl, _, rfl, _, rfl, t, ns, _, _, Sh.lst gs, Sh.tup rs, ss, rfl, hT, ⟨pg, rfl, hp⟩, kg, ⟨pr, rfl, hq⟩, hs, lg, k1, fun hd H1 S1 => ?_⟩
        have G := goodC_of hd
        have hx1 := S1 _ _ hx
        have hp1 := S1 _ _ hp
        have hq1 := S1 _ _ hq
        have hT1 := hT.keep S1
        obtain ⟨is, kin⟩ := G.ints
        have asc := G.asc kin
        have labs := G.labels kin
        have kin' : gs = is.map V.int := kin
        have gful : gs.length ≤ ss.length := G.full
        obtain ⟨tss, tlen, htss⟩ : ∃ tss : List (List Int), tss.length = ss.length ∧ ∀ (j : Nat) (s : Sh) (ts : List Int), ss[j]? = some s → tss[j]? = some ts → items s = ts.map V.int ∧ ts.length = j ∧ ∀ t ∈ ts, 0 ≤ t ∧ t < (ns.length : Nat) := G.tss (by show ss.length ≤ gs.length; have := hs.len; have := G.ln; have : rs.length ≤ gs.length := G.ln; have : rs.length = ss.length := hs.len; omega)
        have gle : gs.length ≤ 60 := G.le
        have rle : rs.length ≤ gs.length := G.ln
        have npg : pg ≠ x := ne_of hp hx (by intro z; cases z)
        have sl : rs.length = ss.length := hs.len
        -- self.ties
        refine ⟨_, rfl, _, rfl, x, CC, dx, [], rfl, hx1, c.cl, c.nT, (by decide), ?_⟩
        have hx2 : (upd H1 x (.ins CC dx (putF "ties" (.ref t) []))) x = some (.ins CC dx (f1 t)) := upd_same
        have B2 : ∀ b o, b ≠ x → H b = some o → (upd H1 x (.ins CC dx (putF "ties" (.ref t) []))) b = some o := fun b o nb eb => by rw [upd_ne nb]; exact S1 _ _ eb
        have hp2 := B2 _ _ npg hp
        -- self.guests
        refine ⟨_, rfl, pg, gs, rfl, .inl ⟨SqL.of hp2, fun ga hga => ?_⟩⟩
        have nga : ga ≠ x := (ne_of_none hx2 hga).symm
        refine ⟨_, rfl, x, CC, dx, _, rfl, (by rw [upd_ne nga.symm]; exact hx2), c.cl, c.nG, l1 t, ?_⟩
        have hx3 : (upd (upd (upd H1 x (.ins CC dx (putF "ties" (.ref t) []))) ga (.tup gs)) x (.ins CC dx (putF "guests" (.ref ga) (f1 t)))) x = some (.ins CC dx (f2 t ga)) := upd_same
        have hg3 : (upd (upd (upd H1 x (.ins CC dx (putF "ties" (.ref t) []))) ga (.tup gs)) x (.ins CC dx (putF "guests" (.ref ga) (f1 t)))) ga = some (.tup gs) := by rw [upd_ne nga, upd_same]
        have B3 : ∀ b o, b ≠ x → H b = some o → (upd (upd (upd H1 x (.ins CC dx (putF "ties" (.ref t) []))) ga (.tup gs)) x (.ins CC dx (putF "guests" (.ref ga) (f1 t)))) b = some o := fun b o nb eb => by
          have e := B2 b o nb eb
          rw [upd_ne nb, upd_ne (ne_of_none e hga)]
          exact e
        generalize upd (upd (upd H1 x (.ins CC dx (putF "ties" (.ref t) []))) ga (.tup gs)) x (.ins CC dx (putF "guests" (.ref ga) (f1 t))) = H3 at hx3 hg3 B3
        -- self.rows
        have hq3 := B3 _ _ (ne_of hq hx (by intro z; cases z)) hq
        refine ⟨_, rfl, pr, rfl, ⟨_, SqT.of hq3⟩, fun D hD => ?_⟩
        refine lc_tup (K := K) (a := pr) (xs := rs) (fun i H4 => Same H3 H4 ∧ H3 D = none ∧ ∃ ps : List Addr, ps.length = i ∧ H4 D = some (.lst (ps.map V.ref)) ∧ ∀ (j : Nat) (a : Addr) (s : Sh), ps[j]? = some a → ss[j]? = some s → H4 a = some (.tup (items s)))
          ⟨new_same hD, hD, [], rfl, upd_same, fun j a s e => nomatch e⟩ (fun i H4 _ ⟨S4, _⟩ => SqT.of (S4 _ _ hq3)) ?_ ?_
        · rintro i y H4 hy ⟨S4, D0, ps, pl, eD, hps⟩
          have hi : i < rs.length := (List.getElem?_eq_some_iff.mp hy).1
          obtain ⟨s, es, isy, _⟩ := hs.at_ hy
          obtain ⟨s', es', ew⟩ := G.row (j := i) (by show i < gs.length; omega)
          obtain rfl : s = s' := by rw [es] at es'; exact Option.some.inj es'
          obtain ⟨sq, _⟩ := rowW_good ew
          refine ⟨rfl, yesT ?_⟩
          have put : ∀ (H5 : Hp) (z : Addr), Same H4 H5 → H5 z = some (.tup (items s)) → ∃ acc : List V, H5 D = some (.lst acc) ∧ acc.length < sizeLine ∧ Same H3 (upd H5 D (.lst (acc ++ [.ref z]))) ∧ H3 D = none ∧ ∃ ps : List Addr, ps.length = i + 1 ∧ (upd H5 D (.lst (acc ++ [.ref z]))) D = some (.lst (ps.map V.ref)) ∧ ∀ (j : Nat) (a : Addr) (s : Sh), ps[j]? = some a → ss[j]? = some s → (upd H5 D (.lst (acc ++ [.ref z]))) a = some (.tup (items s)) := fun H5 z S5 ez => by
            refine ⟨_, S5 _ _ eD, by rw [List.length_map, pl]; show i < 16777216; omega, fun b o eb => ?_, D0, ps ++ [z], by rw [List.length_append, pl]; rfl, by rw [upd_same, List.map_append]; rfl, fun j a s2 ea e2 => ?_⟩
            · rw [upd_ne (ne_of_none eb D0)]
              exact S5 _ _ (S4 _ _ eb)
            · rcases Nat.lt_or_ge j ps.length with hj | hj
              · rw [List.getElem?_append_left hj] at ea
                have q := S5 _ _ (hps j a s2 ea e2)
                rw [upd_ne (ne_of q (S5 _ _ eD) (by intro z; cases z))]
                exact q
              · have hj2 : j = i := by
                  have := (List.getElem?_eq_some_iff.mp ea).1
                  rw [List.length_append] at this
                  have l : [z].length = 1 := rfl
                  omega
                subst hj2
                rw [← pl, List.getElem?_append_right (Nat.le_refl _), Nat.sub_self] at ea
                obtain rfl : z = a := Option.some.inj ea
                obtain rfl : s = s2 := by rw [es] at e2; exact Option.some.inj e2
                rw [upd_ne (ne_of ez (S5 _ _ eD) (by intro z; cases z))]
                exact ez
          cases s with
          | sc u => cases sq
          | dk => cases sq
          | lst ys =>
            obtain ⟨a, rfl, ea⟩ := isy
            refine ⟨_, rfl, a, ys, rfl, .inl ⟨SqL.of (S4 _ _ (B3 _ _ (ne_of ea hx (by intro z; cases z)) ea)), fun z hz => ?_⟩⟩
            exact put _ z (new_same hz) upd_same
          | tup ys =>
            obtain ⟨a, rfl, ea⟩ := isy
            have ea4 := S4 _ _ (B3 _ _ (ne_of ea hx (by intro z; cases z)) ea)
            exact ⟨_, rfl, a, ys, rfl, .inr ⟨SqT.of ea4, put _ a (Same.refl _) ea4⟩⟩
        · rintro H4 ⟨S4, D0, ps, pl, eD, hps⟩
          refine ⟨D, _, rfl, .inl ⟨SqL.of eD, fun ra hra => ?_⟩⟩
          have hx4 := S4 _ _ hx3
          have nra : ra ≠ x := (ne_of_none hx4 hra).symm
          refine ⟨_, rfl, x, CC, dx, _, rfl, (by rw [upd_ne nra.symm]; exact hx4), c.cl, c.nR, l2 t ga, ?_⟩
          have hx5 : (upd (upd H4 ra (.tup (ps.map V.ref))) x (.ins CC dx (putF "rows" (.ref ra) (f2 t ga)))) x = some (.ins CC dx (f3 t ga ra)) := upd_same
          have hr5 : (upd (upd H4 ra (.tup (ps.map V.ref))) x (.ins CC dx (putF "rows" (.ref ra) (f2 t ga)))) ra = some (.tup (ps.map V.ref)) := by rw [upd_ne nra, upd_same]
          have C5 : ∀ b o, b ≠ x → H4 b = some o → (upd (upd H4 ra (.tup (ps.map V.ref))) x (.ins CC dx (putF "rows" (.ref ra) (f2 t ga)))) b = some o := fun b o nb eb => by
            rw [upd_ne nb, upd_ne (ne_of_none eb hra)]
            exact eb
          generalize upd (upd H4 ra (.tup (ps.map V.ref))) x (.ins CC dx (putF "rows" (.ref ra) (f2 t ga))) = H5 at hx5 hr5 C5
          have B5 : ∀ b o, b ≠ x → H b = some o → H5 b = some o := fun b o nb eb => C5 b o nb (S4 _ _ (B3 b o nb eb))
          have hg5 := C5 _ _ (ne_of hg3 hx3 (by intro z; cases z)) (S4 _ _ hg3)
          have rows5 : ∀ (j : Nat) (a : Addr) (s : Sh), ps[j]? = some a → ss[j]? = some s → H5 a = some (.tup (items s)) := fun j a s ea e2 => by
            have q := hps j a s ea e2
            exact C5 _ _ (ne_of q hx4 (by intro z; cases z)) q
          have hT5 := hT.but hx B5
          have R5 : RowsAt H5 ra ns.length ps tss := ⟨hr5, by omega, fun j a ts ea ets => by
            have hj : j < ps.length := (List.getElem?_eq_some_iff.mp ea).1
            have es := List.getElem?_eq_getElem (l := ss) (i := j) (by omega)
            obtain ⟨e1, e2, e3⟩ := htss j _ ts es ets
            exact ⟨by rw [← e1]; exact rows5 j a _ ea es, e2, e3⟩⟩
          -- self.table
          refine ⟨_, rfl, _, rfl, x, CC, dx, _, _, rfl, hx5, c.cl, c.nR, f3_rows t ga ra, t, ra, ns, ps, tss, rfl, hT5, R5, by omega, fun H6 z S6 _ e6 => ?_⟩
          have hx6 := S6 _ _ hx5
          refine ⟨_, rfl, x, CC, dx, _, rfl, hx6, c.cl, c.nB, l3 t ga ra, ?_⟩
          have hx7 : (upd H6 x (.ins CC dx (putF "table" (.ref z) (f3 t ga ra)))) x = some (.ins CC dx (f4 t ga ra z)) := upd_same
          have C67 : ∀ b o, b ≠ x → H6 b = some o → (upd H6 x (.ins CC dx (putF "table" (.ref z) (f3 t ga ra)))) b = some o := fun b o nb eb => by
            rw [upd_ne nb]
            exact eb
          have C7 : ∀ b o, b ≠ x → H5 b = some o → (upd H6 x (.ins CC dx (putF "table" (.ref z) (f3 t ga ra)))) b = some o := fun b o nb eb => by
            rw [upd_ne nb]
            exact S6 _ _ eb
          generalize upd H6 x (.ins CC dx (putF "table" (.ref z) (f3 t ga ra))) = H7 at hx7 C7 C67
          have hg7 := C7 _ _ (ne_of hg5 hx5 (by intro z; cases z)) hg5
          have hr7 := C7 _ _ (ne_of hr5 hx5 (by intro z; cases z)) hr5
          -- self._places
          refine ⟨_, rfl, x, CC, dx, _, _, rfl, hx7, c.cl, c.nG, f4_guests t ga ra z, ga, gs, rfl, SqT.of hg7, fun D2 hD2 => ?_⟩
          refine dc_enumT (K := K) (a := ga) (xs := gs) (fun i H8 => Same H7 H8 ∧ H7 D2 = none ∧ ∃ kvs : List (Key × V), kvs.length ≤ i ∧ H8 D2 = some (.dK kvs) ∧ ∀ k, valV kvs k = place (is.take i) k) ⟨new_same hD2, hD2, [], Nat.le_refl _, upd_same, fun k => by cases k <;> rfl⟩ (fun i H8 _ ⟨S8, _⟩ => SqT.of (S8 _ _ hg7)) ?_ ?_
          · rintro i y H8 T hy ⟨S8, D0', kvs, kl, eK, vK⟩ hT8
            have hi : i < gs.length := (List.getElem?_eq_some_iff.mp hy).1
            obtain ⟨n, hn, rfl⟩ : ∃ n, is[i]? = some n ∧ y = V.int n := by
              rw [kin', List.getElem?_map] at hy
              cases e : is[i]? with
              | none => rw [e] at hy; cases hy
              | some n => rw [e] at hy; exact ⟨n, rfl, (Option.some.inj hy).symm⟩
            refine ⟨T, _, rfl, SqT.of upd_same, rfl, _, _, rfl, _, _, rfl, rfl, rfl, yesT ?_⟩
            refine ⟨_, rfl, _, rfl, kvs, .inl n, rfl, by rw [upd_ne (ne_of_none eK hT8)]; exact eK, by show kvs.length < 16777216; omega, fun b o eb => ?_, D0', _, Nat.le_trans (length_putK _ _ _) (by omega), upd_same, fun k => ?_⟩
            · rw [upd_ne (ne_of_none eb D0'), upd_ne (ne_of_none (S8 _ _ eb) hT8)]
              exact S8 _ _ eb
            · rw [valV_put, place_next hn asc, vK]
          · rintro H8 ⟨S8, D0', kvs, kl, eK, vK⟩
            have hx8 := S8 _ _ hx7
            have ln : is.length = gs.length := by rw [kin', List.length_map]
            rw [show is.take gs.length = is from by rw [← ln, List.take_length]] at vK
            refine ⟨_, rfl, x, CC, dx, _, rfl, hx8, c.cl, c.nP, l4 t ga ra z, ?_⟩
            have C9 : ∀ b o, b ≠ x → H5 b = some o → (upd H8 x (.ins CC dx (putF "_places" (.ref D2) (f4 t ga ra z)))) b = some o := fun b o nb eb => by
              rw [upd_ne nb]
              exact S8 _ _ (C7 b o nb eb)
            have B9 : ∀ b o, b ≠ x → H b = some o → (upd H8 x (.ins CC dx (putF "_places" (.ref D2) (f4 t ga ra z)))) b = some o := fun b o nb eb => C9 b o nb (B5 b o nb eb)
            have D9 : ∀ b o, b ≠ x → H6 b = some o → (upd H8 x (.ins CC dx (putF "_places" (.ref D2) (f4 t ga ra z)))) b = some o := fun b o nb eb => by
              rw [upd_ne nb]
              exact S8 _ _ (C67 b o nb eb)
            refine k2 hd _ is tss B9 kin asc (by rw [tlen]; omega) (fun j s ts e1 e2 => (htss j s ts e1 e2).1) ⟨dx, t, ga, ra, z, D2, ps, kvs, upd_same, hT.but hx B9, (by rw [← show gs = is.map V.int from kin]; exact C9 _ _ (ne_of hg5 hx5 (by intro z; cases z)) hg5), ⟨C9 _ _ (ne_of hr5 hx5 (by intro z; cases z)) hr5, R5.2.1, fun j a ts ea ets => ?_⟩, ?_, (by rw [upd_ne (ne_of eK hx8 (by intro z; cases z))]; exact eK), vK, asc, by rw [tlen]; omega, by omega, labs⟩
            · obtain ⟨q1, q2⟩ := R5.2.2 j a ts ea ets
              exact ⟨C9 _ _ (ne_of q1 hx5 (by intro z; cases z)) q1, q2⟩
            · obtain ⟨us, u1, u2, u3⟩ := e6
              refine ⟨us, D9 _ _ (ne_of u1 hx6 (by intro z; cases z)) u1, u2, fun a u e => ?_⟩
              obtain ⟨xs, w1, w2⟩ := u3 a u e
              exact ⟨xs, D9 _ _ (ne_of w1 hx6 (by intro z; cases z)) w1, w2⟩
    | tup gs =>
      cases sr with
      | sc u =>
        refine ⟨_, (pss_cons 
  (ps_expr (pcal GK hr (passes_call (takes_of rfl rfl rfl rfl) (fun _ _ _ _ h => h)) (pa_cons (pv 1) (pa_cons (pv 2) (pa_cons (pv 3) pa_nil))))) (pss_cons 
  (ps_fld (pv 0) (pv 1) rfl) (pss_cons 
  (ps_fld (pv 0) (pe_callTy (T := "tuple") (r := rTup K) call_tuple_of (by rfl) nt (by decide +kernel) (pa_cons (pv 2) pa_nil)) rfl) (pss_cons 
  (ps_fld (pv 0) (pe_callTy (T := "tuple") (r := rTup K) call_tuple_of (by rfl) nt (by decide +kernel) (pa_cons (pe_lc (own := [("row", 4)]) (g := gName 4) (by rfl) sc_Company_init.nd (pi_list (pv 3)) (blkOk_by (own := [("row", 4)]) (N := ["self", "ties", "guests", "rows", "row", "place", "label"]) (sc := defScope s_Company_init) (by decide +kernel)) (fun _ _ _ _ _ => pg_name (i := 4) sc_Company_init.nd rfl (Or.inl rfl)) (fun _ _ _ _ _ => pts_nil) (fun _ _ _ _ _ => (pe_callTy (T := "tuple") (r := rTup K) call_tuple_of (by rfl) nt (by decide +kernel) (pa_cons (pv 4) pa_nil)))) pa_nil)) rfl) (pss_cons 
  (ps_fld (pv 0) (pcal GT hr pass0 (pa_cons (pv 1) (pa_cons (pe_fld (pv 0) rfl) pa_nil))) rfl) (pss_one 
  (ps_fld (pv 0) (pe_dc (own := [("place", 5), ("label", 6)]) (g := gTup K 2 (gCons (gName 5) (gCons (gName 6) gNil))) (by rfl) sc_Company_init.nd (pi_enumT (by rfl) ne (pa_cons (pe_fld (pv 0) rfl) pa_nil)) (blkOk_by (own := [("place", 5), ("label", 6)]) (N := ["self", "ties", "guests", "rows", "row", "place", "label"]) (sc := defScope s_Company_init) (by decide +kernel)) (fun _ _ _ _ _ => pg_tup (by rfl) (pgs_cons (pg_name (i := 5) sc_Company_init.nd rfl (Or.inl rfl)) (pgs_cons (pg_name (i := 6) sc_Company_init.nd rfl (Or.inl rfl)) pgs_nil))) (fun _ _ _ _ _ => pts_nil) (fun _ _ _ _ _ => pv 6) (fun _ _ _ _ _ => pv 5)) rfl))))))), ?_⟩
        exact ⟨_, rfl, _, rfl, _, rfl, t, ns, _, _, .tup gs, .sc u, ss, rfl, hT, hg, kg, hrr, hs, lg, k1, fun hd => nomatch (goodC_of hd).sq⟩
      | dk =>
        refine ⟨_, (pss_cons 
  (ps_expr (pcal GK hr (passes_call (takes_of rfl rfl rfl rfl) (fun _ _ _ _ h => h)) (pa_cons (pv 1) (pa_cons (pv 2) (pa_cons (pv 3) pa_nil))))) (pss_cons 
  (ps_fld (pv 0) (pv 1) rfl) (pss_cons 
  (ps_fld (pv 0) (pe_callTy (T := "tuple") (r := rTup K) call_tuple_of (by rfl) nt (by decide +kernel) (pa_cons (pv 2) pa_nil)) rfl) (pss_cons 
  (ps_fld (pv 0) (pe_callTy (T := "tuple") (r := rTup K) call_tuple_of (by rfl) nt (by decide +kernel) (pa_cons (pe_lc (own := [("row", 4)]) (g := gName 4) (by rfl) sc_Company_init.nd (pi_list (pv 3)) (blkOk_by (own := [("row", 4)]) (N := ["self", "ties", "guests", "rows", "row", "place", "label"]) (sc := defScope s_Company_init) (by decide +kernel)) (fun _ _ _ _ _ => pg_name (i := 4) sc_Company_init.nd rfl (Or.inl rfl)) (fun _ _ _ _ _ => pts_nil) (fun _ _ _ _ _ => (pe_callTy (T := "tuple") (r := rTup K) call_tuple_of (by rfl) nt (by decide +kernel) (pa_cons (pv 4) pa_nil)))) pa_nil)) rfl) (pss_cons 
  (ps_fld (pv 0) (pcal GT hr pass0 (pa_cons (pv 1) (pa_cons (pe_fld (pv 0) rfl) pa_nil))) rfl) (pss_one 
  (ps_fld (pv 0) (pe_dc (own := [("place", 5), ("label", 6)]) (g := gTup K 2 (gCons (gName 5) (gCons (gName 6) gNil))) (by rfl) sc_Company_init.nd (pi_enumT (by rfl) ne (pa_cons (pe_fld (pv 0) rfl) pa_nil)) (blkOk_by (own := [("place", 5), ("label", 6)]) (N := ["self", "ties", "guests", "rows", "row", "place", "label"]) (sc := defScope s_Company_init) (by decide +kernel)) (fun _ _ _ _ _ => pg_tup (by rfl) (pgs_cons (pg_name (i := 5) sc_Company_init.nd rfl (Or.inl rfl)) (pgs_cons (pg_name (i := 6) sc_Company_init.nd rfl (Or.inl rfl)) pgs_nil))) (fun _ _ _ _ _ => pts_nil) (fun _ _ _ _ _ => pv 6) (fun _ _ _ _ _ => pv 5)) rfl))))))), ?_⟩
        exact ⟨_, rfl, _, rfl, _, rfl, t, ns, _, _, .tup gs, .dk, ss, rfl, hT, hg, kg, hrr, hs, lg, k1, fun hd => nomatch (goodC_of hd).sq⟩
      | lst rs =>
        obtain ⟨pg, rfl, hp⟩ := hg
        obtain ⟨pr, rfl, hq⟩ := hrr
        refine ⟨_, (pss_cons 
    (ps_expr (pcal GK hr (passes_call (takes_of rfl rfl rfl rfl) (fun _ _ _ _ h => h)) (pa_cons (pv 1) (pa_cons (pv 2) (pa_cons (pv 3) pa_nil))))) (pss_cons 
    (ps_fld (pv 0) (pv 1) rfl) (pss_cons 
    (ps_fld (pv 0) (pe_callTy (T := "tuple") (r := rTup K) call_tuple_of (by rfl) nt (by decide +kernel) (pa_cons (pv 2) pa_nil)) rfl) (pss_cons 
    (ps_fld (pv 0) (pe_callTy (T := "tuple") (r := rTup K) call_tuple_of (by rfl) nt (by decide +kernel) (pa_cons (pe_lc (own := [("row", 4)]) (g := gName 4) (by rfl) sc_Company_init.nd (pi_list (pv 3)) (blkOk_by (own := [("row", 4)]) (N := ["self", "ties", "guests", "rows", "row", "place", "label"]) (sc := defScope s_Company_init) (by decide +kernel)) (fun _ _ _ _ _ => pg_name (i := 4) sc_Company_init.nd rfl (Or.inl rfl)) (fun _ _ _ _ _ => pts_nil) (fun _ _ _ _ _ => (pe_callTy (T := "tuple") (r := rTup K) call_tuple_of (by rfl) nt (by decide +kernel) (pa_cons (pv 4) pa_nil)))) pa_nil)) rfl) (pss_cons 
    (ps_fld (pv 0) (pcal GT hr pass0 (pa_cons (pv 1) (pa_cons (pe_fld (pv 0) rfl) pa_nil))) rfl) (pss_one 
    (ps_fld (pv 0) (pe_dc (own := [("place", 5), ("label", 6)]) (g := gTup K 2 (gCons (gName 5) (gCons (gName 6) gNil))) (by rfl) sc_Company_init.nd (pi_enumT (by rfl) ne (pa_cons (pe_fld (pv 0) rfl) pa_nil)) (blkOk_by (own := [("place", 5), ("label", 6)]) (N := ["self", "ties", "guests", "rows", "row", "place", "label"]) (sc := defScope s_Company_init) (by decide +kernel)) (fun _ _ _ _ _ => pg_tup (by rfl) (pgs_cons (pg_name (i := 5) sc_Company_init.nd rfl (Or.inl rfl)) (pgs_cons (pg_name (i := 6) sc_Company_init.nd rfl (Or.inl rfl)) pgs_nil))) (fun _ _ _ _ _ => pts_nil) (fun _ _ _ _ _ => pv 6) (fun _ _ _ _ _ => pv 5)) rfl))))))), ?_⟩
        refine ⟨_, rfl, _, rfl, _, rfl, t, ns, _, _, Sh.tup gs, Sh.lst rs, ss, rfl, hT, ⟨pg, rfl, hp⟩, kg, ⟨pr, rfl, hq⟩, hs, lg, k1, fun hd H1 S1 => ?_⟩
        have G := goodC_of hd
        have hx1 := S1 _ _ hx
        have hp1 := S1 _ _ hp
        have hq1 := S1 _ _ hq
        have hT1 := hT.keep S1
        obtain ⟨is, kin⟩ := G.ints
        have asc := G.asc kin
        have labs := G.labels kin
        have kin' : gs = is.map V.int := kin
        have gful : gs.length ≤ ss.length := G.full
        obtain ⟨tss, tlen, htss⟩ : ∃ tss : List (List Int), tss.length = ss.length ∧ ∀ (j : Nat) (s : Sh) (ts : List Int), ss[j]? = some s → tss[j]? = some ts → items s = ts.map V.int ∧ ts.length = j ∧ ∀ t ∈ ts, 0 ≤ t ∧ t < (ns.length : Nat) := G.tss (by show ss.length ≤ gs.length; have := hs.len; have := G.ln; have : rs.length ≤ gs.length := G.ln; have : rs.length = ss.length := hs.len; omega)
        have gle : gs.length ≤ 60 := G.le
        have rle : rs.length ≤ gs.length := G.ln
        have npg : pg ≠ x := ne_of hp hx (by intro z; cases z)
        have sl : rs.length = ss.length := hs.len
        -- self.ties
        refine ⟨_, rfl, _, rfl, x, CC, dx, [], rfl, hx1, c.cl, c.nT, (by decide), ?_⟩
        have hx2 : (upd H1 x (.ins CC dx (putF "ties" (.ref t) []))) x = some (.ins CC dx (f1 t)) := upd_same
        have B2 : ∀ b o, b ≠ x → H b = some o → (upd H1 x (.ins CC dx (putF "ties" (.ref t) []))) b = some o := fun b o nb eb => by rw [upd_ne nb]; exact S1 _ _ eb
        have hp2 := B2 _ _ npg hp
        -- self.guests
        obtain ⟨ga, ega⟩ : ∃ ga, ga = pg := ⟨pg, rfl⟩
        refine ⟨_, rfl, pg, gs, rfl, .inr ⟨SqT.of hp2, ?_⟩⟩
        refine ⟨_, rfl, x, CC, dx, _, rfl, hx2, c.cl, c.nG, l1 t, ?_⟩
        rw [← ega] at hp2 npg ⊢
        have hx3 : (upd (upd H1 x (.ins CC dx (putF "ties" (.ref t) []))) x (.ins CC dx (putF "guests" (.ref ga) (f1 t)))) x = some (.ins CC dx (f2 t ga)) := upd_same
        have hg3 : (upd (upd H1 x (.ins CC dx (putF "ties" (.ref t) []))) x (.ins CC dx (putF "guests" (.ref ga) (f1 t)))) ga = some (.tup gs) := by rw [upd_ne npg]; exact hp2
        have B3 : ∀ b o, b ≠ x → H b = some o → (upd (upd H1 x (.ins CC dx (putF "ties" (.ref t) []))) x (.ins CC dx (putF "guests" (.ref ga) (f1 t)))) b = some o := fun b o nb eb => by
          rw [upd_ne nb]
          exact B2 b o nb eb
        generalize upd (upd H1 x (.ins CC dx (putF "ties" (.ref t) []))) x (.ins CC dx (putF "guests" (.ref ga) (f1 t))) = H3 at hx3 hg3 B3
        -- self.rows
        have hq3 := B3 _ _ (ne_of hq hx (by intro z; cases z)) hq
        refine ⟨_, rfl, pr, rfl, ⟨_, SqL.of hq3⟩, fun D hD => ?_⟩
        refine lc_list (K := K) (a := pr) (xs := rs) (fun i H4 => Same H3 H4 ∧ H3 D = none ∧ ∃ ps : List Addr, ps.length = i ∧ H4 D = some (.lst (ps.map V.ref)) ∧ ∀ (j : Nat) (a : Addr) (s : Sh), ps[j]? = some a → ss[j]? = some s → H4 a = some (.tup (items s)))
          ⟨new_same hD, hD, [], rfl, upd_same, fun j a s e => nomatch e⟩ (fun i H4 _ ⟨S4, _⟩ => SqL.of (S4 _ _ hq3)) ?_ ?_
        · rintro i y H4 hy ⟨S4, D0, ps, pl, eD, hps⟩
          have hi : i < rs.length := (List.getElem?_eq_some_iff.mp hy).1
          obtain ⟨s, es, isy, _⟩ := hs.at_ hy
          obtain ⟨s', es', ew⟩ := G.row (j := i) (by show i < gs.length; omega)
          obtain rfl : s = s' := by rw [es] at es'; exact Option.some.inj es'
          obtain ⟨sq, _⟩ := rowW_good ew
          refine ⟨rfl, yesT ?_⟩
          have put : ∀ (H5 : Hp) (z : Addr), Same H4 H5 → H5 z = some (.tup (items s)) → ∃ acc : List V, H5 D = some (.lst acc) ∧ acc.length < sizeLine ∧ Same H3 (upd H5 D (.lst (acc ++ [.ref z]))) ∧ H3 D = none ∧ ∃ ps : List Addr, ps.length = i + 1 ∧ (upd H5 D (.lst (acc ++ [.ref z]))) D = some (.lst (ps.map V.ref)) ∧ ∀ (j : Nat) (a : Addr) (s : Sh), ps[j]? = some a → ss[j]? = some s → (upd H5 D (.lst (acc ++ [.ref z]))) a = some (.tup (items s)) := fun H5 z S5 ez => by
            refine ⟨_, S5 _ _ eD, by rw [List.length_map, pl]; show i < 16777216; omega, fun b o eb => ?_, D0, ps ++ [z], by rw [List.length_append, pl]; rfl, by rw [upd_same, List.map_append]; rfl, fun j a s2 ea e2 => ?_⟩
            · rw [upd_ne (ne_of_none eb D0)]
              exact S5 _ _ (S4 _ _ eb)
            · rcases Nat.lt_or_ge j ps.length with hj | hj
              · rw [List.getElem?_append_left hj] at ea
                have q := S5 _ _ (hps j a s2 ea e2)
                rw [upd_ne (ne_of q (S5 _ _ eD) (by intro z; cases z))]
                exact q
              · have hj2 : j = i := by
                  have := (List.getElem?_eq_some_iff.mp ea).1
                  rw [List.length_append] at this
                  have l : [z].length = 1 := rfl
                  omega
                subst hj2
                rw [← pl, List.getElem?_append_right (Nat.le_refl _), Nat.sub_self] at ea
                obtain rfl : z = a := Option.some.inj ea
                obtain rfl : s = s2 := by rw [es] at e2; exact Option.some.inj e2
                rw [upd_ne (ne_of ez (S5 _ _ eD) (by intro z; cases z))]
                exact ez
          cases s with
          | sc u => cases sq
          | dk => cases sq
          | lst ys =>
            obtain ⟨a, rfl, ea⟩ := isy
            refine ⟨_, rfl, a, ys, rfl, .inl ⟨SqL.of (S4 _ _ (B3 _ _ (ne_of ea hx (by intro z; cases z)) ea)), fun z hz => ?_⟩⟩
            exact put _ z (new_same hz) upd_same
          | tup ys =>
            obtain ⟨a, rfl, ea⟩ := isy
            have ea4 := S4 _ _ (B3 _ _ (ne_of ea hx (by intro z; cases z)) ea)
            exact ⟨_, rfl, a, ys, rfl, .inr ⟨SqT.of ea4, put _ a (Same.refl _) ea4⟩⟩
        · rintro H4 ⟨S4, D0, ps, pl, eD, hps⟩
          refine ⟨D, _, rfl, .inl ⟨SqL.of eD, fun ra hra => ?_⟩⟩
          have hx4 := S4 _ _ hx3
          have nra : ra ≠ x := (ne_of_none hx4 hra).symm
          refine ⟨_, rfl, x, CC, dx, _, rfl, (by rw [upd_ne nra.symm]; exact hx4), c.cl, c.nR, l2 t ga, ?_⟩
          have hx5 : (upd (upd H4 ra (.tup (ps.map V.ref))) x (.ins CC dx (putF "rows" (.ref ra) (f2 t ga)))) x = some (.ins CC dx (f3 t ga ra)) := upd_same
          have hr5 : (upd (upd H4 ra (.tup (ps.map V.ref))) x (.ins CC dx (putF "rows" (.ref ra) (f2 t ga)))) ra = some (.tup (ps.map V.ref)) := by rw [upd_ne nra, upd_same]
          have C5 : ∀ b o, b ≠ x → H4 b = some o → (upd (upd H4 ra (.tup (ps.map V.ref))) x (.ins CC dx (putF "rows" (.ref ra) (f2 t ga)))) b = some o := fun b o nb eb => by
            rw [upd_ne nb, upd_ne (ne_of_none eb hra)]
            exact eb
          generalize upd (upd H4 ra (.tup (ps.map V.ref))) x (.ins CC dx (putF "rows" (.ref ra) (f2 t ga))) = H5 at hx5 hr5 C5
          have B5 : ∀ b o, b ≠ x → H b = some o → H5 b = some o := fun b o nb eb => C5 b o nb (S4 _ _ (B3 b o nb eb))
          have hg5 := C5 _ _ (ne_of hg3 hx3 (by intro z; cases z)) (S4 _ _ hg3)
          have rows5 : ∀ (j : Nat) (a : Addr) (s : Sh), ps[j]? = some a → ss[j]? = some s → H5 a = some (.tup (items s)) := fun j a s ea e2 => by
            have q := hps j a s ea e2
            exact C5 _ _ (ne_of q hx4 (by intro z; cases z)) q
          have hT5 := hT.but hx B5
          have R5 : RowsAt H5 ra ns.length ps tss := ⟨hr5, by omega, fun j a ts ea ets => by
            have hj : j < ps.length := (List.getElem?_eq_some_iff.mp ea).1
            have es := List.getElem?_eq_getElem (l := ss) (i := j) (by omega)
            obtain ⟨e1, e2, e3⟩ := htss j _ ts es ets
            exact ⟨by rw [← e1]; exact rows5 j a _ ea es, e2, e3⟩⟩
          -- self.table
          refine ⟨_, rfl, _, rfl, x, CC, dx, _, _, rfl, hx5, c.cl, c.nR, f3_rows t ga ra, t, ra, ns, ps, tss, rfl, hT5, R5, by omega, fun H6 z S6 _ e6 => ?_⟩
          have hx6 := S6 _ _ hx5
          refine ⟨_, rfl, x, CC, dx, _, rfl, hx6, c.cl, c.nB, l3 t ga ra, ?_⟩
          have hx7 : (upd H6 x (.ins CC dx (putF "table" (.ref z) (f3 t ga ra)))) x = some (.ins CC dx (f4 t ga ra z)) := upd_same
          have C67 : ∀ b o, b ≠ x → H6 b = some o → (upd H6 x (.ins CC dx (putF "table" (.ref z) (f3 t ga ra)))) b = some o := fun b o nb eb => by
            rw [upd_ne nb]
            exact eb
          have C7 : ∀ b o, b ≠ x → H5 b = some o → (upd H6 x (.ins CC dx (putF "table" (.ref z) (f3 t ga ra)))) b = some o := fun b o nb eb => by
            rw [upd_ne nb]
            exact S6 _ _ eb
          generalize upd H6 x (.ins CC dx (putF "table" (.ref z) (f3 t ga ra))) = H7 at hx7 C7 C67
          have hg7 := C7 _ _ (ne_of hg5 hx5 (by intro z; cases z)) hg5
          have hr7 := C7 _ _ (ne_of hr5 hx5 (by intro z; cases z)) hr5
          -- self._places
          refine ⟨_, rfl, x, CC, dx, _, _, rfl, hx7, c.cl, c.nG, f4_guests t ga ra z, ga, gs, rfl, SqT.of hg7, fun D2 hD2 => ?_⟩
          refine dc_enumT (K := K) (a := ga) (xs := gs) (fun i H8 => Same H7 H8 ∧ H7 D2 = none ∧ ∃ kvs : List (Key × V), kvs.length ≤ i ∧ H8 D2 = some (.dK kvs) ∧ ∀ k, valV kvs k = place (is.take i) k) ⟨new_same hD2, hD2, [], Nat.le_refl _, upd_same, fun k => by cases k <;> rfl⟩ (fun i H8 _ ⟨S8, _⟩ => SqT.of (S8 _ _ hg7)) ?_ ?_
          · rintro i y H8 T hy ⟨S8, D0', kvs, kl, eK, vK⟩ hT8
            have hi : i < gs.length := (List.getElem?_eq_some_iff.mp hy).1
            obtain ⟨n, hn, rfl⟩ : ∃ n, is[i]? = some n ∧ y = V.int n := by
              rw [kin', List.getElem?_map] at hy
              cases e : is[i]? with
              | none => rw [e] at hy; cases hy
              | some n => rw [e] at hy; exact ⟨n, rfl, (Option.some.inj hy).symm⟩
            refine ⟨T, _, rfl, SqT.of upd_same, rfl, _, _, rfl, _, _, rfl, rfl, rfl, yesT ?_⟩
            refine ⟨_, rfl, _, rfl, kvs, .inl n, rfl, by rw [upd_ne (ne_of_none eK hT8)]; exact eK, by show kvs.length < 16777216; omega, fun b o eb => ?_, D0', _, Nat.le_trans (length_putK _ _ _) (by omega), upd_same, fun k => ?_⟩
            · rw [upd_ne (ne_of_none eb D0'), upd_ne (ne_of_none (S8 _ _ eb) hT8)]
              exact S8 _ _ eb
            · rw [valV_put, place_next hn asc, vK]
          · rintro H8 ⟨S8, D0', kvs, kl, eK, vK⟩
            have hx8 := S8 _ _ hx7
            have ln : is.length = gs.length := by rw [kin', List.length_map]
            rw [show is.take gs.length = is from by rw [← ln, List.take_length]] at vK
            refine ⟨_, rfl, x, CC, dx, _, rfl, hx8, c.cl, c.nP, l4 t ga ra z, ?_⟩
            have C9 : ∀ b o, b ≠ x → H5 b = some o → (upd H8 x (.ins CC dx (putF "_places" (.ref D2) (f4 t ga ra z)))) b = some o := fun b o nb eb => by
              rw [upd_ne nb]
              exact S8 _ _ (C7 b o nb eb)
            have B9 : ∀ b o, b ≠ x → H b = some o → (upd H8 x (.ins CC dx (putF "_places" (.ref D2) (f4 t ga ra z)))) b = some o := fun b o nb eb => C9 b o nb (B5 b o nb eb)
            have D9 : ∀ b o, b ≠ x → H6 b = some o → (upd H8 x (.ins CC dx (putF "_places" (.ref D2) (f4 t ga ra z)))) b = some o := fun b o nb eb => by
              rw [upd_ne nb]
              exact S8 _ _ (C67 b o nb eb)
            refine k2 hd _ is tss B9 kin asc (by rw [tlen]; omega) (fun j s ts e1 e2 => (htss j s ts e1 e2).1) ⟨dx, t, ga, ra, z, D2, ps, kvs, upd_same, hT.but hx B9, (by rw [← show gs = is.map V.int from kin]; exact C9 _ _ (ne_of hg5 hx5 (by intro z; cases z)) hg5), ⟨C9 _ _ (ne_of hr5 hx5 (by intro z; cases z)) hr5, R5.2.1, fun j a ts ea ets => ?_⟩, ?_, (by rw [upd_ne (ne_of eK hx8 (by intro z; cases z))]; exact eK), vK, asc, by rw [tlen]; omega, by omega, labs⟩
            · obtain ⟨q1, q2⟩ := R5.2.2 j a ts ea ets
              exact ⟨C9 _ _ (ne_of q1 hx5 (by intro z; cases z)) q1, q2⟩
            · obtain ⟨us, u1, u2, u3⟩ := e6
              refine ⟨us, D9 _ _ (ne_of u1 hx6 (by intro z; cases z)) u1, u2, fun a u e => ?_⟩
              obtain ⟨xs, w1, w2⟩ := u3 a u e
              exact ⟨xs, D9 _ _ (ne_of w1 hx6 (by intro z; cases z)) w1, w2⟩
      | tup rs =>
        obtain ⟨pg, rfl, hp⟩ := hg
        obtain ⟨pr, rfl, hq⟩ := hrr
        refine ⟨_, (pss_cons 
    (ps_expr (pcal GK hr (passes_call (takes_of rfl rfl rfl rfl) (fun _ _ _ _ h => h)) (pa_cons (pv 1) (pa_cons (pv 2) (pa_cons (pv 3) pa_nil))))) (pss_cons 
    (ps_fld (pv 0) (pv 1) rfl) (pss_cons 
    (ps_fld (pv 0) (pe_callTy (T := "tuple") (r := rTup K) call_tuple_of (by rfl) nt (by decide +kernel) (pa_cons (pv 2) pa_nil)) rfl) (pss_cons 
    (ps_fld (pv 0) (pe_callTy (T := "tuple") (r := rTup K) call_tuple_of (by rfl) nt (by decide +kernel) (pa_cons (pe_lc (own := [("row", 4)]) (g := gName 4) (by rfl) sc_Company_init.nd (pi_tup (pv 3)) (blkOk_by (own := [("row", 4)]) (N := ["self", "ties", "guests", "rows", "row", "place", "label"]) (sc := defScope s_Company_init) (by decide +kernel)) (fun _ _ _ _ _ => pg_name (i := 4) sc_Company_init.nd rfl (Or.inl rfl)) (fun _ _ _ _ _ => pts_nil) (fun _ _ _ _ _ => (pe_callTy (T := "tuple") (r := rTup K) call_tuple_of (by rfl) nt (by decide +kernel) (pa_cons (pv 4) pa_nil)))) pa_nil)) rfl) (pss_cons 
    (ps_fld (pv 0) (pcal GT hr pass0 (pa_cons (pv 1) (pa_cons (pe_fld (pv 0) rfl) pa_nil))) rfl) (pss_one 
    (ps_fld (pv 0) (pe_dc (own := [("place", 5), ("label", 6)]) (g := gTup K 2 (gCons (gName 5) (gCons (gName 6) gNil))) (by rfl) sc_Company_init.nd (pi_enumT (by rfl) ne (pa_cons (pe_fld (pv 0) rfl) pa_nil)) (blkOk_by (own := [("place", 5), ("label", 6)]) (N := ["self", "ties", "guests", "rows", "row", "place", "label"]) (sc := defScope s_Company_init) (by decide +kernel)) (fun _ _ _ _ _ => pg_tup (by rfl) (pgs_cons (pg_name (i := 5) sc_Company_init.nd rfl (Or.inl rfl)) (pgs_cons (pg_name (i := 6) sc_Company_init.nd rfl (Or.inl rfl)) pgs_nil))) (fun _ _ _ _ _ => pts_nil) (fun _ _ _ _ _ => pv 6) (fun _ _ _ _ _ => pv 5)) rfl))))))), ?_⟩
        refine ⟨_, rfl, _, rfl, _, rfl, t, ns, _, _, Sh.tup gs, Sh.tup rs, ss, rfl, hT, ⟨pg, rfl, hp⟩, kg, ⟨pr, rfl, hq⟩, hs, lg, k1, fun hd H1 S1 => ?_⟩
        have G := goodC_of hd
        have hx1 := S1 _ _ hx
        have hp1 := S1 _ _ hp
        have hq1 := S1 _ _ hq
        have hT1 := hT.keep S1
        obtain ⟨is, kin⟩ := G.ints
        have asc := G.asc kin
        have labs := G.labels kin
        have kin' : gs = is.map V.int := kin
        have gful : gs.length ≤ ss.length := G.full
        obtain ⟨tss, tlen, htss⟩ : ∃ tss : List (List Int), tss.length = ss.length ∧ ∀ (j : Nat) (s : Sh) (ts : List Int), ss[j]? = some s → tss[j]? = some ts → items s = ts.map V.int ∧ ts.length = j ∧ ∀ t ∈ ts, 0 ≤ t ∧ t < (ns.length : Nat) := G.tss (by show ss.length ≤ gs.length; have := hs.len; have := G.ln; have : rs.length ≤ gs.length := G.ln; have : rs.length = ss.length := hs.len; omega)
        have gle : gs.length ≤ 60 := G.le
        have rle : rs.length ≤ gs.length := G.ln
        have npg : pg ≠ x := ne_of hp hx (by intro z; cases z)
        have sl : rs.length = ss.length := hs.len
        -- self.ties
        refine ⟨_, rfl, _, rfl, x, CC, dx, [], rfl, hx1, c.cl, c.nT, (by decide), ?_⟩
        have hx2 : (upd H1 x (.ins CC dx (putF "ties" (.ref t) []))) x = some (.ins CC dx (f1 t)) := upd_same
        have B2 : ∀ b o, b ≠ x → H b = some o → (upd H1 x (.ins CC dx (putF "ties" (.ref t) []))) b = some o := fun b o nb eb => by rw [upd_ne nb]; exact S1 _ _ eb
        have hp2 := B2 _ _ npg hp
        -- self.guests
        obtain ⟨ga, ega⟩ : ∃ ga, ga = pg := ⟨pg, rfl⟩
        refine ⟨_, rfl, pg, gs, rfl, .inr ⟨SqT.of hp2, ?_⟩⟩
        refine ⟨_, rfl, x, CC, dx, _, rfl, hx2, c.cl, c.nG, l1 t, ?_⟩
        rw [← ega] at hp2 npg ⊢
        have hx3 : (upd (upd H1 x (.ins CC dx (putF "ties" (.ref t) []))) x (.ins CC dx (putF "guests" (.ref ga) (f1 t)))) x = some (.ins CC dx (f2 t ga)) := upd_same
        have hg3 : (upd (upd H1 x (.ins CC dx (putF "ties" (.ref t) []))) x (.ins CC dx (putF "guests" (.ref ga) (f1 t)))) ga = some (.tup gs) := by rw [upd_ne npg]; exact hp2
        have B3 : ∀ b o, b ≠ x → H b = some o → (upd (upd H1 x (.ins CC dx (putF "ties" (.ref t) []))) x (.ins CC dx (putF "guests" (.ref ga) (f1 t)))) b = some o := fun b o nb eb => by
          rw [upd_ne nb]
          exact B2 b o nb eb
        generalize upd (upd H1 x (.ins CC dx (putF "ties" (.ref t) []))) x (.ins CC dx (putF "guests" (.ref ga) (f1 t))) = H3 at hx3 hg3 B3
        -- self.rows
        have hq3 := B3 _ _ (ne_of hq hx (by intro z; cases z)) hq
        refine ⟨_, rfl, pr, rfl, ⟨_, SqT.of hq3⟩, fun D hD => ?_⟩
        refine lc_tup (K := K) (a := pr) (xs := rs) (fun i H4 => Same H3 H4 ∧ H3 D = none ∧ ∃ ps : List Addr, ps.length = i ∧ H4 D = some (.lst (ps.map V.ref)) ∧ ∀ (j : Nat) (a : Addr) (s : Sh), ps[j]? = some a → ss[j]? = some s → H4 a = some (.tup (items s)))
          ⟨new_same hD, hD, [], rfl, upd_same, fun j a s e => nomatch e⟩ (fun i H4 _ ⟨S4, _⟩ => SqT.of (S4 _ _ hq3)) ?_ ?_
        · rintro i y H4 hy ⟨S4, D0, ps, pl, eD, hps⟩
          have hi : i < rs.length := (List.getElem?_eq_some_iff.mp hy).1
          obtain ⟨s, es, isy, _⟩ := hs.at_ hy
          obtain ⟨s', es', ew⟩ := G.row (j := i) (by show i < gs.length; omega)
          obtain rfl : s = s' := by rw [es] at es'; exact Option.some.inj es'
          obtain ⟨sq, _⟩ := rowW_good ew
          refine ⟨rfl, yesT ?_⟩
          have put : ∀ (H5 : Hp) (z : Addr), Same H4 H5 → H5 z = some (.tup (items s)) → ∃ acc : List V, H5 D = some (.lst acc) ∧ acc.length < sizeLine ∧ Same H3 (upd H5 D (.lst (acc ++ [.ref z]))) ∧ H3 D = none ∧ ∃ ps : List Addr, ps.length = i + 1 ∧ (upd H5 D (.lst (acc ++ [.ref z]))) D = some (.lst (ps.map V.ref)) ∧ ∀ (j : Nat) (a : Addr) (s : Sh), ps[j]? = some a → ss[j]? = some s → (upd H5 D (.lst (acc ++ [.ref z]))) a = some (.tup (items s)) := fun H5 z S5 ez => by
            refine ⟨_, S5 _ _ eD, by rw [List.length_map, pl]; show i < 16777216; omega, fun b o eb => ?_, D0, ps ++ [z], by rw [List.length_append, pl]; rfl, by rw [upd_same, List.map_append]; rfl, fun j a s2 ea e2 => ?_⟩
            · rw [upd_ne (ne_of_none eb D0)]
              exact S5 _ _ (S4 _ _ eb)
            · rcases Nat.lt_or_ge j ps.length with hj | hj
              · rw [List.getElem?_append_left hj] at ea
                have q := S5 _ _ (hps j a s2 ea e2)
                rw [upd_ne (ne_of q (S5 _ _ eD) (by intro z; cases z))]
                exact q
              · have hj2 : j = i := by
                  have := (List.getElem?_eq_some_iff.mp ea).1
                  rw [List.length_append] at this
                  have l : [z].length = 1 := rfl
                  omega
                subst hj2
                rw [← pl, List.getElem?_append_right (Nat.le_refl _), Nat.sub_self] at ea
                obtain rfl : z = a := Option.some.inj ea
                obtain rfl : s = s2 := by rw [es] at e2; exact Option.some.inj e2
                rw [upd_ne (ne_of ez (S5 _ _ eD) (by intro z; cases z))]
                exact ez
          cases s with
          | sc u => cases sq
          | dk => cases sq
          | lst ys =>
            obtain ⟨a, rfl, ea⟩ := isy
            refine ⟨_, rfl, a, ys, rfl, .inl ⟨SqL.of (S4 _ _ (B3 _ _ (ne_of ea hx (by intro z; cases z)) ea)), fun z hz => ?_⟩⟩
            exact put _ z (new_same hz) upd_same
          | tup ys =>
            obtain ⟨a, rfl, ea⟩ := isy
            have ea4 := S4 _ _ (B3 _ _ (ne_of ea hx (by intro z; cases z)) ea)
            exact ⟨_, rfl, a, ys, rfl, .inr ⟨SqT.of ea4, put _ a (Same.refl _) ea4⟩⟩
        · rintro H4 ⟨S4, D0, ps, pl, eD, hps⟩
          refine ⟨D, _, rfl, .inl ⟨SqL.of eD, fun ra hra => ?_⟩⟩
          have hx4 := S4 _ _ hx3
          have nra : ra ≠ x := (ne_of_none hx4 hra).symm
          refine ⟨_, rfl, x, CC, dx, _, rfl, (by rw [upd_ne nra.symm]; exact hx4), c.cl, c.nR, l2 t ga, ?_⟩
          have hx5 : (upd (upd H4 ra (.tup (ps.map V.ref))) x (.ins CC dx (putF "rows" (.ref ra) (f2 t ga)))) x = some (.ins CC dx (f3 t ga ra)) := upd_same
          have hr5 : (upd (upd H4 ra (.tup (ps.map V.ref))) x (.ins CC dx (putF "rows" (.ref ra) (f2 t ga)))) ra = some (.tup (ps.map V.ref)) := by rw [upd_ne nra, upd_same]
          have C5 : ∀ b o, b ≠ x → H4 b = some o → (upd (upd H4 ra (.tup (ps.map V.ref))) x (.ins CC dx (putF "rows" (.ref ra) (f2 t ga)))) b = some o := fun b o nb eb => by
            rw [upd_ne nb, upd_ne (ne_of_none eb hra)]
            exact eb
          generalize upd (upd H4 ra (.tup (ps.map V.ref))) x (.ins CC dx (putF "rows" (.ref ra) (f2 t ga))) = H5 at hx5 hr5 C5
          have B5 : ∀ b o, b ≠ x → H b = some o → H5 b = some o := fun b o nb eb => C5 b o nb (S4 _ _ (B3 b o nb eb))
          have hg5 := C5 _ _ (ne_of hg3 hx3 (by intro z; cases z)) (S4 _ _ hg3)
          have rows5 : ∀ (j : Nat) (a : Addr) (s : Sh), ps[j]? = some a → ss[j]? = some s → H5 a = some (.tup (items s)) := fun j a s ea e2 => by
            have q := hps j a s ea e2
            exact C5 _ _ (ne_of q hx4 (by intro z; cases z)) q
          have hT5 := hT.but hx B5
          have R5 : RowsAt H5 ra ns.length ps tss := ⟨hr5, by omega, fun j a ts ea ets => by
            have hj : j < ps.length := (List.getElem?_eq_some_iff.mp ea).1
            have es := List.getElem?_eq_getElem (l := ss) (i := j) (by omega)
            obtain ⟨e1, e2, e3⟩ := htss j _ ts es ets
            exact ⟨by rw [← e1]; exact rows5 j a _ ea es, e2, e3⟩⟩
          -- self.table
          refine ⟨_, rfl, _, rfl, x, CC, dx, _, _, rfl, hx5, c.cl, c.nR, f3_rows t ga ra, t, ra, ns, ps, tss, rfl, hT5, R5, by omega, fun H6 z S6 _ e6 => ?_⟩
          have hx6 := S6 _ _ hx5
          refine ⟨_, rfl, x, CC, dx, _, rfl, hx6, c.cl, c.nB, l3 t ga ra, ?_⟩
          have hx7 : (upd H6 x (.ins CC dx (putF "table" (.ref z) (f3 t ga ra)))) x = some (.ins CC dx (f4 t ga ra z)) := upd_same
          have C67 : ∀ b o, b ≠ x → H6 b = some o → (upd H6 x (.ins CC dx (putF "table" (.ref z) (f3 t ga ra)))) b = some o := fun b o nb eb => by
            rw [upd_ne nb]
            exact eb
          have C7 : ∀ b o, b ≠ x → H5 b = some o → (upd H6 x (.ins CC dx (putF "table" (.ref z) (f3 t ga ra)))) b = some o := fun b o nb eb => by
            rw [upd_ne nb]
            exact S6 _ _ eb
          generalize upd H6 x (.ins CC dx (putF "table" (.ref z) (f3 t ga ra))) = H7 at hx7 C7 C67
          have hg7 := C7 _ _ (ne_of hg5 hx5 (by intro z; cases z)) hg5
          have hr7 := C7 _ _ (ne_of hr5 hx5 (by intro z; cases z)) hr5
          -- self._places
          refine ⟨_, rfl, x, CC, dx, _, _, rfl, hx7, c.cl, c.nG, f4_guests t ga ra z, ga, gs, rfl, SqT.of hg7, fun D2 hD2 => ?_⟩
          refine dc_enumT (K := K) (a := ga) (xs := gs) (fun i H8 => Same H7 H8 ∧ H7 D2 = none ∧ ∃ kvs : List (Key × V), kvs.length ≤ i ∧ H8 D2 = some (.dK kvs) ∧ ∀ k, valV kvs k = place (is.take i) k) ⟨new_same hD2, hD2, [], Nat.le_refl _, upd_same, fun k => by cases k <;> rfl⟩ (fun i H8 _ ⟨S8, _⟩ => SqT.of (S8 _ _ hg7)) ?_ ?_
          · rintro i y H8 T hy ⟨S8, D0', kvs, kl, eK, vK⟩ hT8
            have hi : i < gs.length := (List.getElem?_eq_some_iff.mp hy).1
            obtain ⟨n, hn, rfl⟩ : ∃ n, is[i]? = some n ∧ y = V.int n := by
              rw [kin', List.getElem?_map] at hy
              cases e : is[i]? with
              | none => rw [e] at hy; cases hy
              | some n => rw [e] at hy; exact ⟨n, rfl, (Option.some.inj hy).symm⟩
            refine ⟨T, _, rfl, SqT.of upd_same, rfl, _, _, rfl, _, _, rfl, rfl, rfl, yesT ?_⟩
            refine ⟨_, rfl, _, rfl, kvs, .inl n, rfl, by rw [upd_ne (ne_of_none eK hT8)]; exact eK, by show kvs.length < 16777216; omega, fun b o eb => ?_, D0', _, Nat.le_trans (length_putK _ _ _) (by omega), upd_same, fun k => ?_⟩
            · rw [upd_ne (ne_of_none eb D0'), upd_ne (ne_of_none (S8 _ _ eb) hT8)]
              exact S8 _ _ eb
            · rw [valV_put, place_next hn asc, vK]
          · rintro H8 ⟨S8, D0', kvs, kl, eK, vK⟩
            have hx8 := S8 _ _ hx7
            have ln : is.length = gs.length := by rw [kin', List.length_map]
            rw [show is.take gs.length = is from by rw [← ln, List.take_length]] at vK
            refine ⟨_, rfl, x, CC, dx, _, rfl, hx8, c.cl, c.nP, l4 t ga ra z, ?_⟩
            have C9 : ∀ b o, b ≠ x → H5 b = some o → (upd H8 x (.ins CC dx (putF "_places" (.ref D2) (f4 t ga ra z)))) b = some o := fun b o nb eb => by
              rw [upd_ne nb]
              exact S8 _ _ (C7 b o nb eb)
            have B9 : ∀ b o, b ≠ x → H b = some o → (upd H8 x (.ins CC dx (putF "_places" (.ref D2) (f4 t ga ra z)))) b = some o := fun b o nb eb => C9 b o nb (B5 b o nb eb)
            have D9 : ∀ b o, b ≠ x → H6 b = some o → (upd H8 x (.ins CC dx (putF "_places" (.ref D2) (f4 t ga ra z)))) b = some o := fun b o nb eb => by
              rw [upd_ne nb]
              exact S8 _ _ (C67 b o nb eb)
            refine k2 hd _ is tss B9 kin asc (by rw [tlen]; omega) (fun j s ts e1 e2 => (htss j s ts e1 e2).1) ⟨dx, t, ga, ra, z, D2, ps, kvs, upd_same, hT.but hx B9, (by rw [← show gs = is.map V.int from kin]; exact C9 _ _ (ne_of hg5 hx5 (by intro z; cases z)) hg5), ⟨C9 _ _ (ne_of hr5 hx5 (by intro z; cases z)) hr5, R5.2.1, fun j a ts ea ets => ?_⟩, ?_, (by rw [upd_ne (ne_of eK hx8 (by intro z; cases z))]; exact eK), vK, asc, by rw [tlen]; omega, by omega, labs⟩
            · obtain ⟨q1, q2⟩ := R5.2.2 j a ts ea ets
              exact ⟨C9 _ _ (ne_of q1 hx5 (by intro z; cases z)) q1, q2⟩
            · obtain ⟨us, u1, u2, u3⟩ := e6
              refine ⟨us, D9 _ _ (ne_of u1 hx6 (by intro z; cases z)) u1, u2, fun a u e => ?_⟩
              obtain ⟨xs, w1, w2⟩ := u3 a u e
              exact ⟨xs, D9 _ _ (ne_of w1 hx6 (by intro z; cases z)) w1, w2⟩
end
end J

set_option Elab.async false
set_option linter.all false
set_option maxRecDepth 100000
set_option maxHeartbeats 2000000
namespace J
open PySem PySem.Spec PyProof.Rows L2
/-! ### in, not in and len by the text's own methods -/
def rInOwn (C : Addr) (sp : Sp) (E : XK) (neg : Bool) : R2 := fun x y H Q => ∃ b dx fs, y = .ref b ∧ H b = some (.ins C dx fs) ∧ sp [y, x] H (fun v H' => ∃ c, v = .bl c ∧ Q (.bl (if neg = true then !c else c)) H') E
section
variable {X : Cx} {CX : CXT} {n : Nat} {C f : Addr} {fd : FuncData} {ps : List Str} {sp : Sp} {E : XK}
theorem op_inOwn (F : FnOk X.prog X.w X.K X.mg X.base CX n f fd ps sp) (hs : PySem.W.findIn X.K (.ref C) "__contains__" = some (some (.ref f))) (hf : PySem.W.isFn X.K (.ref f) = true) (hb : Binds X.K fd ps []) (hx : Passes CX X E) (hr : Room n X.A) : OpR X (compareOp .In) (rInOwn C sp E false) := by
  intro pins s σ H x y v u Q I rx ry ⟨b, dx, fs, ey, hb', q⟩
  subst ey
  obtain rfl : u = Value.ref b := ry
  obtain ⟨mA, J, _⟩ := ins_get I.hok hb'
  obtain ⟨od, J, _⟩ := J.look
  obtain ⟨m, hF⟩ := I.fr
  have r2 : Vals [V.ref b, x] [Value.ref b, v] := .cons rfl (.cons rx .nil)
  refine PySem.W.in_K hF I.ok.mod.kin J hs hf ?_
  refine wpAny_mono (run_fn (dvs := []) (ds := []) (us := [.ref b, v]) (vs := [.ref b, x]) F hr hb .nil hx I r2 q) ?_ fun _ _ z => z
  rintro w s' ⟨z, H', I', rz, ⟨c, rfl, qz⟩⟩
  obtain rfl : w = Value.bool c := rz
  exact wpAny_truthy_bool ⟨V.bl c, H', I', rfl, qz⟩
theorem op_niOwn (F : FnOk X.prog X.w X.K X.mg X.base CX n f fd ps sp) (hs : PySem.W.findIn X.K (.ref C) "__contains__" = some (some (.ref f))) (hf : PySem.W.isFn X.K (.ref f) = true) (hb : Binds X.K fd ps []) (hx : Passes CX X E) (hr : Room n X.A) : OpR X (compareOp .NotIn) (rInOwn C sp E true) := by
  intro pins s σ H x y v u Q I rx ry ⟨b, dx, fs, ey, hb', q⟩
  subst ey
  obtain rfl : u = Value.ref b := ry
  obtain ⟨mA, J, _⟩ := ins_get I.hok hb'
  obtain ⟨od, J, _⟩ := J.look
  obtain ⟨m, hF⟩ := I.fr
  have r2 : Vals [V.ref b, x] [Value.ref b, v] := .cons rfl (.cons rx .nil)
  refine PySem.W.notIn_K hF I.ok.mod.kin J hs hf ?_
  refine wpAny_mono (run_fn (dvs := []) (ds := []) (us := [.ref b, v]) (vs := [.ref b, x]) F hr hb .nil hx I r2 q) ?_ fun _ _ z => z
  rintro w s' ⟨z, H', I', rz, ⟨c, rfl, qz⟩⟩
  obtain rfl : w = Value.bool c := rz
  exact wpAny_truthy_bool ⟨V.bl (!c), H', I', rfl, qz⟩
def rLenOwn (C : Addr) (sp : Sp) (E : XK) : List V → Hp → VK → Prop := fun xs H Q => ∃ b dx fs, xs = [.ref b] ∧ H b = some (.ins C dx fs) ∧ sp [.ref b] H (fun v H' => ∃ k : Nat, v = .int (k : Nat) ∧ k < 2 ^ 62 ∧ Q (.int (k : Nat)) H') E
theorem call_lenOwn {sp : Sp} (F : FnOk X.prog X.w X.K X.mg X.base CX0 n f fd ps sp) (hs : PySem.W.findIn X.K (.ref C) "__len__" = some (some (.ref f))) (hf : PySem.W.isFn X.K (.ref f) = true) (hb : Binds X.K fd ps []) (hr : Room (n + 1) X.A) : CallR X (.builtin "len") (rLenOwn C sp E) := by
  intro pins s σ H xs us Q I r ⟨b, dx, fs, ex, hb', q⟩
  subst ex
  obtain ⟨u, rfl, rx⟩ := vals1 r
  obtain rfl : u = Value.ref b := rx
  obtain ⟨mA, J, _⟩ := ins_get I.hok hb'
  obtain ⟨od, J, _⟩ := J.look
  obtain ⟨m, hF⟩ := I.fr
  have r2 : Vals [V.ref b] [Value.ref b] := .cons rfl .nil
  refine PySem.W.len_K hF I.ok.mod.kin J hs hf ?_
  have hl : ([Value.ref b] : List Value).length = ps.length := by rw [← r2.length]; exact F.len _ _ _ _ q
  refine wpAny_call (codeAny_mono (F.run X.A.in1 X.stack s H ⟨[.ref b], []⟩ [.ref b] [.ref b] _ E hr.in1 I.env0.in1 (by have := hb s [.ref b] I.kIn (by rw [List.append_nil]; exact hl); rw [List.append_nil] at this; exact this) r2 q) fun r s' hq => ?_)
  cases r with
  | error e => exact hq.elim
  | ok fl =>
    cases fl with
    | ret u =>
      obtain ⟨v, H', I3, rv, k, ev, hk, q4⟩ := I.after hq
      subst ev
      obtain ⟨t, rfl⟩ := rv
      refine ⟨⟨by omega, by omega⟩, V.int (k : Nat), H', I3.tok _, ⟨_, rfl⟩, q4⟩
    | next => exact hq.elim
    | brk => exact hq.elim
    | cont => exact hq.elim
end
end J

set_option Elab.async false
set_option linter.all false
set_option maxRecDepth 100000
set_option maxHeartbeats 4000000
namespace J
open PySem PySem.Spec PyProof.Rows L2
abbrev s_NoGuest_init : Stmt := inClass (top 6) 0
theorem sc_NoGuest_init : FnScope ["self", "label"] ["self", "label"] (defScope s_NoGuest_init) := ⟨rfl, rfl, rfl, by decide +kernel, rfl, by decide +kernel, by decide +kernel⟩
abbrev s_Company_len : Stmt := inClass (top 17) 1
theorem sc_Company_len : FnScope ["self"] ["self"] (defScope s_Company_len) := ⟨rfl, rfl, rfl, by decide +kernel, rfl, by decide +kernel, by decide +kernel⟩
abbrev s_Company_contains : Stmt := inClass (top 17) 2
theorem sc_Company_contains : FnScope ["self", "label"] ["self", "label"] (defScope s_Company_contains) := ⟨rfl, rfl, rfl, by decide +kernel, rfl, by decide +kernel, by decide +kernel⟩
abbrev s_Company_place_of : Stmt := inClass (top 17) 5
theorem sc_Company_place_of : FnScope ["self", "label"] ["self", "label"] (defScope s_Company_place_of) := ⟨rfl, rfl, rfl, by decide +kernel, rfl, by decide +kernel, by decide +kernel⟩
theorem cf_places (t g r b p : Addr) : (cf t g r b p).lookup ("_places" : Str) = some (.ref p) := by
  unfold cf
  rw [lookup_putF, if_pos rfl]
theorem cf_table (t g r b p : Addr) : (cf t g r b p).lookup ("table" : Str) = some (.ref b) := by
  unfold cf f4
  rw [lookup_putF, if_neg ne_table__places, lookup_putF, if_pos rfl]
theorem cf_ties (t g r b p : Addr) : (cf t g r b p).lookup ("ties" : Str) = some (.ref t) := by
  unfold cf f4 f3 f2 f1
  rw [lookup_putF, if_neg ne_ties__places, lookup_putF, if_neg ne_ties_table, lookup_putF, if_neg ne_ties_rows, lookup_putF, if_neg ne_ties_guests, lookup_putF, if_pos rfl]
theorem cf_no (t g r b p : Addr) {m : Str} (h1 : ¬ m = "_places") (h2 : ¬ m = "table") (h3 : ¬ m = "rows") (h4 : ¬ m = "guests") (h5 : ¬ m = "ties") : (cf t g r b p).lookup m = none := by
  unfold cf f4 f3 f2 f1
  rw [lookup_putF, if_neg h1, lookup_putF, if_neg h2, lookup_putF, if_neg h3, lookup_putF, if_neg h4, lookup_putF, if_neg h5]
  rfl
/-- where v stands among the guests is -/
def seat (is : List Int) (v : V) : Option Nat := match v with
  | .int n => is.findIdx? fun y => decide (y = n)
  | _ => none
theorem seat_at {is : List Int} (a : Asc is) {j : Nat} {n : Int} (h : is[j]? = some n) : seat is (.int n) = some j := by
  show is.findIdx? _ = some j
  rw [List.findIdx?_eq_some_iff_getElem]
  have hj := (List.getElem?_eq_some_iff.mp h).1
  refine ⟨hj, decide_eq_true (List.getElem?_eq_some_iff.mp h).2, fun i hi => ?_⟩
  have e := List.getElem?_eq_getElem (l := is) (i := i) (by omega)
  intro q
  have q' := of_decide_eq_true q
  rw [q'] at e
  have := a.inj e h
  omega
theorem seat_some {is : List Int} {v : V} {j : Nat} (h : seat is v = some j) : ∃ n, v = .int n ∧ is[j]? = some n ∧ j < is.length := by
  cases v with
  | int n =>
    have h' : is.findIdx? (fun y => decide (y = n)) = some j := h
    rw [List.findIdx?_eq_some_iff_getElem] at h'
    obtain ⟨hj, e, _⟩ := h'
    have e' := of_decide_eq_true e
    exact ⟨n, rfl, by rw [List.getElem?_eq_getElem hj, e'], hj⟩
  | _ => cases h
def spCLen (C CC : Addr) : Sp := fun vs H Q _ => ∃ (x : Addr) (ns is : List Int) (tss : List (List Int)), vs = [.ref x] ∧ CompAt C CC H x ns is tss ∧ Q (.int (is.length : Nat)) H
def spCIn (C CC : Addr) : Sp := fun vs H Q _ => ∃ (x : Addr) (ns is : List Int) (tss : List (List Int)) (v : V) (s : Sh), vs = [.ref x, v] ∧ CompAt C CC H x ns is tss ∧ Is H v s ∧ Q (.bl (seat is v).isSome) H
def spCPlace (C CC CN : Addr) : Sp := fun vs H Q E => ∃ (x : Addr) (ns is : List Int) (tss : List (List Int)) (v : V) (s : Sh), vs = [.ref x, v] ∧ CompAt C CC H x ns is tss ∧ Is H v s ∧ (∀ j, seat is v = some j → Q (.int (j : Nat)) H) ∧ (seat is v = none → Tells H CN "label" v E)
section
variable {P : Program} {w : World} {K : PySem.W.Frag} {mg : Str → Option Value} {base : Heap}
theorem ok_NoGuest_init {f C : Addr} {fd : FuncData} (F : Fun K "__init__" "NoGuest.__init__" s_NoGuest_init f fd) (o : OexC K C) (no : PySem.W.findIn K (.ref C) "label" = some none) : FnOk P w K mg base CX0 1 f fd ["self", "label"] (spXI C "label") := by
  refine F.ok sc_NoGuest_init (fun vs H Q E h => ?_) (fun cdv A outer s H vs Q E hr h => ?_)
  · obtain ⟨x, s, rfl, _⟩ := h
    rfl
  · obtain ⟨a, v, rfl, ha, k⟩ := h
    refine ⟨_, pss_one (ps_ost (pv 0) (pv 1)), ?_⟩
    exact ⟨_, rfl, _, rfl, a, C, rfl, o, no, .inl ⟨ha, k⟩⟩
theorem ok_Company_len {f C CC : Addr} {fd : FuncData} (F : Fun K "__len__" "Company.__len__" s_Company_len f fd) (c : CoC K CC) (nl : mg "len" = none) : FnOk P w K mg base CX0 1 f fd ["self"] (spCLen C CC) := by
  refine F.ok sc_Company_len (fun vs H Q E h => ?_) (fun cdv A outer s H vs Q E hr h => ?_)
  · obtain ⟨x, ns, is, tss, rfl, _⟩ := h
    rfl
  · obtain ⟨x, ns, is, tss, rfl, ⟨dx, t, g, r, b, p, ps, kvs, a1, a2, a3, _⟩, k⟩ := h
    refine ⟨_, (pss_one (ps_ret (pe_callB call_len_seq (by rfl) nl PySem.boot_len (pa_cons (pe_fld (pv 0) rfl) pa_nil)))), ?_⟩
    refine ⟨_, rfl, x, CC, dx, _, _, rfl, a1, c.cl, c.nG, cf_guests _ _ _ _ _, g, _, rfl, .inr (SqT.of a3), ?_⟩
    rw [List.length_map]
    exact k
theorem ok_Company_contains {f C CC fL : Addr} {fd fdL : FuncData} (F : Fun K "__contains__" "Company.__contains__" s_Company_contains f fd) (c : CoC K CC) (GL : Cal P w K mg base CX0 2 "is_label" fL fdL ["thing"] spLabel) : FnOk P w K mg base CX0 3 f fd ["self", "label"] (spCIn C CC) := by
  refine F.ok sc_Company_contains (fun vs H Q E h => ?_) (fun cdv A outer s H vs Q E hr h => ?_)
  · obtain ⟨x, ns, is, tss, v, s, rfl, _⟩ := h
    rfl
  · obtain ⟨x, ns, is, tss, v, s, rfl, ⟨dx, t, g, r, b, p, ps, kvs, a1, a2, a3, a4, a5, a6, a7, a8, a9, a10, a11⟩, hv, k⟩ := h
    refine ⟨_, (pss_one (ps_ret (pe_and (pcal GL hr pass0 (pa_cons (pv 1) pa_nil)) (pe_one (pe_cmp (pc_din (hu_of hr) (pv 1) (pe_fld (pv 0) rfl))))))), ?_⟩
    refine ⟨_, rfl, v, s, rfl, hv, _, rfl, ?_⟩
    cases e : wholeB v 0 1000000000 with
    | false =>
      have e2 : seat is v = none := by
        cases q : seat is v with
        | none => rfl
        | some j =>
          obtain ⟨n, rfl, hn, _⟩ := seat_some q
          obtain ⟨b0, b1⟩ := a11 n (List.mem_of_getElem? hn)
          rw [whole_of b0 b1] at e
          cases e
      rw [e2] at k
      exact if_fa rfl k
    | true =>
      obtain ⟨n, rfl, _, _⟩ := whole_int e
      refine if_tr rfl ⟨_, rfl, _, rfl, x, CC, dx, _, _, rfl, a1, c.cl, c.nP, cf_places _ _ _ _ _, p, _, rfl, DGet.k (k := Sum.inl n) a6, ?_⟩
      rw [a7]
      have e3 : (place is (Sum.inl n)).isSome = (seat is (.int n)).isSome := by
        show (Option.map _ (is.findIdx? _)).isSome = (is.findIdx? _).isSome
        rw [Option.isSome_map]
      rw [e3]
      exact k
theorem ok_Company_place_of {f C CC CN fC fN : Addr} {fd fdC fdN : FuncData} (F : Fun K "place_of" "Company.place_of" s_Company_place_of f fd) (c : CoC K CC)
    (FC : FnOk P w K mg base CX0 3 fC fdC ["self", "label"] (spCIn C CC)) (aC : PySem.W.findIn K (.ref CC) "__contains__" = some (some (.ref fC))) (iC : PySem.W.isFn K (.ref fC) = true) (bC : Binds K fdC ["self", "label"] [])
    (GN : Ex P w K mg base "NoGuest" "label" CN fN fdN ["self", "label"]) : FnOk P w K mg base (L2.CX P w) 4 f fd ["self", "label"] (spCPlace C CC CN) := by
  refine F.okX sc_Company_place_of (fun vs H Q E h => ?_) (fun cdv A outer s H vs Q E hr h => ?_)
  · obtain ⟨x, ns, is, tss, v, s, rfl, _⟩ := h
    rfl
  · obtain ⟨x, ns, is, tss, v, s, rfl, hC, hv, k1, k2⟩ := h
    obtain ⟨dx, t, g, r, b, p, ps, kvs, a1, a2, a3, a4, a5, a6, a7, a8, a9, a10, a11⟩ := id hC
    have hr2 : Room 2 _ := hr.mono (by decide)
    refine ⟨_, (pss_cons 
  (ps_if (pt_cmpR (op_niOwn FC aC iC bC pass0 hr) (pv 1) (pv 0) (by rfl)) (pss_one 
    (ps_raise rfl (takes_of rfl rfl rfl rfl) (pmk_oex GN.o GN.i GN.t GN.F hr2 GN.b .nil pass0 rfl GN.m (pa_cons (pv 1) pa_nil)))) pss_nil) (pss_one 
  (ps_ret (pe_dget (hu_of hr) (pe_fld (pv 0) rfl) (pv 1) (fun _ _ => rfl))))), ?_⟩
    refine ⟨_, rfl, _, rfl, x, dx, _, rfl, a1, ⟨x, ns, is, tss, v, s, rfl, hC, hv, _, rfl, _, rfl, ?_⟩⟩
    cases e : seat is v with
    | none => exact iteT ⟨_, rfl, mkO_of (k2 e)⟩
    | some j =>
      obtain ⟨n, rfl, hn, _⟩ := seat_some e
      refine iteF ⟨_, rfl, x, CC, dx, _, _, rfl, a1, c.cl, c.nP, cf_places _ _ _ _ _, _, rfl, p, _, rfl, ?_, k1 j e⟩
      have q := DGet.k (k := Sum.inl n) a6
      have e2 : valV kvs (Sum.inl n) = some (.int (j : Nat)) := by
        rw [a7]
        have e' : is.findIdx? (fun y => decide (y = n)) = some j := e
        show Option.map _ (is.findIdx? _) = _
        rw [e']
        rfl
      rw [e2] at q
      exact q
end
end J

set_option Elab.async false
set_option linter.all false
set_option maxRecDepth 100000
set_option maxHeartbeats 4000000
namespace J
open PySem PySem.Spec PyProof.Rows L2
abbrev s_Company_row_of : Stmt := inClass (top 17) 7
theorem sc_Company_row_of : FnScope ["self", "label", "place", "line"] ["self", "label"] (defScope s_Company_row_of) := ⟨rfl, rfl, rfl, by decide +kernel, rfl, by decide +kernel, by decide +kernel⟩
/-- the row of the guest at place j: his ties to the others in their order -/
def RowOf (ns : List Int) (tss : List (List Int)) (n j : Nat) (ys : List V) : Prop := ys.length + 1 = n ∧ ∀ b, b + 1 < n → ys[b]? = some (cell ns tss j (if b < j then b else b + 1))
def spCRow (C CC CN : Addr) : Sp := fun vs H Q E => ∃ (x : Addr) (ns is : List Int) (tss : List (List Int)) (v : V) (s : Sh), vs = [.ref x, v] ∧ CompAt C CC H x ns is tss ∧ Is H v s ∧ (seat is v = none → Tells H CN "label" v E) ∧
  ∀ j, seat is v = some j → ∀ (H' : Hp) (z : Addr) (ys : List V), Same H H' → H' z = some (.tup ys) → RowOf ns tss is.length j ys → Q (.ref z) H'
theorem cut_row {ns : List Int} {tss : List (List Int)} {n j : Nat} {xs : List V} (hl : xs.length = n) (hf : ∀ b, b < n → xs[b]? = some (cell ns tss j b)) (hj : j < n) : RowOf ns tss n j (xs.take j ++ xs.drop (j + 1)) := by
  refine ⟨by rw [List.length_append, List.length_take, List.length_drop]; omega, fun b hb => ?_⟩
  by_cases c : b < j
  · rw [if_pos c, List.getElem?_append_left (by rw [List.length_take]; omega), List.getElem?_take_of_lt c]
    exact hf b (by omega)
  · rw [if_neg c, List.getElem?_append_right (by rw [List.length_take]; omega), List.getElem?_drop, List.length_take, show j + 1 + (b - min j xs.length) = b + 1 by omega]
    exact hf _ hb
section
variable {P : Program} {w : World} {K : PySem.W.Frag} {mg : Str → Option Value} {base : Heap}
theorem ok_Company_row_of {f C CC CN fP : Addr} {fd fdP : FuncData} (F : Fun K "row_of" "Company.row_of" s_Company_row_of f fd) (c : CoC K CC)
    (GP : Mt P w K mg base (L2.CX P w) 4 CC "place_of" fP fdP ["self", "label"] (spCPlace C CC CN)) : FnOk P w K mg base (L2.CX P w) 5 f fd ["self", "label"] (spCRow C CC CN) := by
  refine F.okX sc_Company_row_of (fun vs H Q E h => ?_) (fun cdv A outer s H vs Q E hr h => ?_)
  · obtain ⟨x, ns, is, tss, v, s, rfl, _⟩ := h
    rfl
  · obtain ⟨x, ns, is, tss, v, s, rfl, hC, hv, k1, k2⟩ := h
    obtain ⟨dx, t, g, r, b, p, ps, kvs, a1, a2, a3, a4, a5, a6, a7, a8, a9, a10, a11⟩ := id hC
    refine ⟨_, (pss_cons 
  (ps_set (i := 2) sc_Company_row_of.nd rfl (Or.inl rfl) (pe_meth (pv 0) c.cl GP.M GP.F hr GP.b .nil (passes_call (takes_of rfl rfl rfl rfl) (fun _ _ _ _ h => h)) (pa_cons (pv 1) pa_nil))) (pss_cons 
  (ps_set (i := 3) sc_Company_row_of.nd rfl (Or.inl rfl) (pe_ix ix_tup (pe_fld (pv 0) rfl) (pv 2) (fun _ _ => rfl))) (pss_one 
  (ps_ret (pe_op op_catA (pe_slice sl_tup (pv 3) po_none (po_some (pv 2))) (pe_slice sl_tup (pv 3) (po_some (pe_op op_add (pv 2) pe_int)) po_none)))))), ?_⟩
    refine ⟨_, rfl, x, dx, _, rfl, a1, cf_no _ _ _ _ _ (by decide +kernel) (by decide +kernel) (by decide +kernel) (by decide +kernel) (by decide +kernel), _, rfl, x, ns, is, tss, v, s, rfl, hC, hv, fun j ej => ?_, fun e => k1 e⟩
    obtain ⟨_, _, _, hj⟩ := seat_some ej
    obtain ⟨us, u1, u2, u3⟩ := a5
    have eu := List.getElem?_eq_getElem (l := us) (i := j) (by omega)
    generalize us[j]'(by omega) = uj at eu
    obtain ⟨xs, x1, x2, x3⟩ := u3 j uj eu
    have xl : xs.length = is.length := by omega
    have six1 : HT.sIx xs.length xs.length (some ((j : Nat) : Int)) = j := by rw [HT.sIx_nat]; omega
    have six2 : HT.sIx xs.length 0 (some (((j : Nat) : Int) + 1)) = j + 1 := by
      rw [show (((j : Nat) : Int) + 1) = ((j + 1 : Nat) : Int) by omega, HT.sIx_nat]
      omega
    refine ⟨_, rfl, x, CC, dx, _, _, rfl, a1, c.cl, c.nB, cf_table _ _ _ _ _, _, rfl, _, _, _, _, rfl, rfl, SqT.of u1, at_of (j := j) (v := .ref uj) rfl (by rw [List.getElem?_map, eu]; rfl), ?_⟩
    refine ⟨_, rfl, _, rfl, _, rfl, uj, xs, rfl, SqT.of x1, (fun z => by rw [six1] at z; omega), fun p1 hp1 => ?_⟩
    have c1 : cutV xs none (some ((j : Nat) : Int)) = xs.take j := by
      unfold cutV
      rw [six1, HT.sIx_none]
      simp
    rw [c1]
    have T1 : Same H (upd H p1 (.tup (xs.take j))) := new_same hp1
    have e1 : (upd H p1 (.tup (xs.take j))) p1 = some (.tup (xs.take j)) := upd_same
    generalize upd H p1 (.tup (xs.take j)) = H1 at T1 e1
    refine ⟨_, rfl, _, rfl, _, _, rfl, rfl, _, rfl, uj, xs, rfl, SqT.of (T1 _ _ x1), (fun z => by rw [six2] at z; omega), fun p2 hp2 => ?_⟩
    have c2 : cutV xs (some (((j : Nat) : Int) + 1)) none = xs.drop (j + 1) := by
      unfold cutV
      rw [six2, HT.sIx_none]
      exact List.take_of_length_le (by rw [List.length_drop]; omega)
    rw [c2]
    have T2 : Same H1 (upd H1 p2 (.tup (xs.drop (j + 1)))) := new_same hp2
    have e2 : (upd H1 p2 (.tup (xs.drop (j + 1)))) p2 = some (.tup (xs.drop (j + 1))) := upd_same
    generalize upd H1 p2 (.tup (xs.drop (j + 1))) = H2 at T2 e2
    have fin : ∀ (H' : Hp) (z : Addr), Same H2 H' → H' z = some (.tup (xs.take j ++ xs.drop (j + 1))) → Q (.ref z) H' := fun H' z S e => k2 j ej H' z _ ((T1.trans T2).trans S) e (cut_row xl (fun b hb => x3 b (by omega)) hj)
    refine ⟨p1, p2, _, _, rfl, rfl, SqT.of (T2 _ _ e1), SqT.of e2, by rw [List.length_take, List.length_drop]; show _ ≤ 16777216; omega, fun z => fin H2 p2 (Same.refl _) (by rw [z]; exact e2), fun _ z => fin H2 p1 (Same.refl _) (by rw [z, List.append_nil]; exact T2 _ _ e1), fun _ _ p3 hp3 => fin _ p3 (new_same hp3) upd_same⟩
end
end J

set_option Elab.async false
set_option linter.all false
set_option maxRecDepth 100000
set_option maxHeartbeats 4000000
namespace J
open PySem PySem.Spec PyProof.Rows L2
structure TiX (K : PySem.W.Frag) (mg : Str → Option Value) (C : Addr) : Prop extends TiC K C where
  isc : C8.InsC K C
  nt : PySem.W.kitOne K (.type "tuple") (.ref C) = some false
  nf : PySem.W.notFirst K C (.type "tuple") = true
  mT : mg "Ties" = some (.ref C)
structure CoX (K : PySem.W.Frag) (mg : Str → Option Value) (C : Addr) : Prop extends CoC K C where
  isc : C8.InsC K C
  mC : mg "Company" = some (.ref C)
abbrev s_Ties_eq : Stmt := inClass (top 13) 1
theorem sc_Ties_eq : FnScope ["self", "other"] ["self", "other"] (defScope s_Ties_eq) := ⟨rfl, rfl, rfl, by decide +kernel, rfl, by decide +kernel, by decide +kernel⟩
def spTEq (C : Addr) : Sp := fun vs H Q _ => ∃ (a b : Addr) (ns : List Int), vs = [.ref a, .ref b] ∧ TiesAt C H a ns ∧ ((∃ ms, TiesAt C H b ms ∧ Q (.bl (decide (ns = ms))) H) ∨ ((∃ ys, H b = some (.tup ys)) ∧ Q (.bl false) H))
abbrev s_Company_eq : Stmt := inClass (top 17) 4
theorem sc_Company_eq : FnScope ["self", "other"] ["self", "other"] (defScope s_Company_eq) := ⟨rfl, rfl, rfl, by decide +kernel, rfl, by decide +kernel, by decide +kernel⟩
def spCEq (C CC : Addr) : Sp := fun vs H Q _ => ∃ (x y : Addr) (ns ms is js : List Int) (tss uss : List (List Int)), vs = [.ref x, .ref y] ∧ CompAt C CC H x ns is tss ∧ CompAt C CC H y ms js uss ∧ Q (.bl (decide (ns = ms ∧ is = js ∧ tss = uss))) H
/-- rows as data -/
def rowsD (tss : List (List Int)) : List PyData := tss.map fun ts => .tuple (ts.map PyData.int)
theorem eqv_rowsD : ∀ tss uss : List (List Int), PyData.eqvAll (rowsD tss) (rowsD uss) = decide (tss = uss)
  | [], [] => by simp [rowsD, PyData.eqvAll]
  | [], u :: us => by simp [rowsD, PyData.eqvAll]
  | t :: ts, [] => by simp [rowsD, PyData.eqvAll]
  | t :: ts, u :: us => by
    have ih := eqv_rowsD ts us
    have h1 := eqv_ti t u
    show (PyData.eqv (.tuple (t.map PyData.int)) (.tuple (u.map PyData.int)) && PyData.eqvAll (rowsD ts) (rowsD us)) = _
    rw [h1, ih]
    by_cases h : t = u
    · by_cases h2 : ts = us
      · simp [h, h2]
      · simp [h, h2]
    · simp [h]
theorem lay_rowsD : ∀ tss : List (List Int), PyData.canLayAll0 (rowsD tss) = true ∧ PyData.depthAll (rowsD tss) ≤ 2
  | [] => by simp [rowsD, PyData.canLayAll0, PyData.depthAll]
  | t :: ts => by
    obtain ⟨a, b⟩ := lay_rowsD ts
    have h1 := ints_lay t
    have h2 := ints_depth t
    refine ⟨?_, ?_⟩
    · show (PyData.canLay0 (.tuple (t.map PyData.int)) && PyData.canLayAll0 (rowsD ts)) = true
      rw [a, Bool.and_true]
      simp only [PyData.canLay0]
      exact h1
    · show max (PyData.depth (.tuple (t.map PyData.int))) (PyData.depthAll (rowsD ts)) ≤ 2
      simp only [PyData.depth]
      omega
theorem shaped_rowsD (tss : List (List Int)) : SeqAt.shaped (.tuple (rowsD tss)) = true := by
  obtain ⟨a, b⟩ := lay_rowsD tss
  show (PyData.canLay0 (.tuple (rowsD tss)) && decide (PyData.depth (.tuple (rowsD tss)) ≤ 64)) = true
  rw [Bool.and_eq_true]
  refine ⟨by simp only [PyData.canLay0]; exact a, decide_eq_true ?_⟩
  simp only [PyData.depth]
  omega
theorem dp_rowsD {K : PySem.W.Frag} {H : Hp} : ∀ {ps : List Addr} {tss : List (List Int)}, ps.length = tss.length → (∀ (j : Nat) (a : Addr) (ts : List Int), ps[j]? = some a → tss[j]? = some ts → H a = some (.tup (ts.map V.int))) → DpAll K H (ps.map V.ref) (rowsD tss)
  | [], [], _, _ => .nil
  | [], _ :: _, h, _ => by cases h
  | _ :: _, [], h, _ => by cases h
  | p :: ps, t :: ts, h, f => .cons (.tup (SqT.of (f 0 p t rfl rfl)) (dp_ints t)) (dp_rowsD (Nat.succ.inj h) fun j a b e1 e2 => f (j + 1) a b (by simpa using e1) (by simpa using e2))
section
variable {P : Program} {w : World} {K : PySem.W.Frag} {mg : Str → Option Value} {base : Heap}
theorem ok_Ties_eq {f C : Addr} {fd : FuncData} (F : Fun K "__eq__" "Ties.__eq__" s_Ties_eq f fd) (T : TiX K mg C) (nis : mg "isinstance" = none) : FnOk P w K mg base CX0 1 f fd ["self", "other"] (spTEq C) := by
  refine F.ok sc_Ties_eq (fun vs H Q E h => ?_) (fun cdv A outer s H vs Q E hr h => ?_)
  · obtain ⟨a, b, ns, rfl, _⟩ := h
    rfl
  · obtain ⟨a, b, ns, rfl, ⟨dx, t, ha, ht⟩, h⟩ := h
    refine ⟨_, (pss_one 
  (ps_ret (pe_and (pe_callB call_isi (by rfl) nis (by decide +kernel) (pa_cons (pv 1) (pa_cons (pe_glob (v := .ref C) rfl T.mT rfl) pa_nil))) (pe_one (pe_cmpR (op_eqD hr.units) (pe_fld (pv 0) rfl) (pe_fld (pv 1) rfl) (nomark _)))))), ?_⟩
    rcases h with ⟨ms, ⟨dy, u, hb, hu⟩, k⟩ | ⟨⟨ys, hb⟩, k⟩
    · refine ⟨_, rfl, _, _, _, _, true, rfl, .own C, .base (.ins hb T.cl T.isc.ha T.isc.hn T.isc.htk T.isc.hm), T.isc.me, _, rfl, if_tr rfl ?_⟩
      refine ⟨_, rfl, a, C, dx, _, _, rfl, ha, T.cl, T.nB, tf_backs _ _, _, rfl, b, C, dy, _, _, rfl, hb, T.cl, T.nB, tf_backs _ _, _, _, .tup (SqT.of ht) (dp_ints ns), .tup (SqT.of hu) (dp_ints ms), shaped_ti ns, shaped_ti ms, ?_⟩
      rw [eqv_ti]
      exact k
    · exact ⟨_, rfl, _, _, _, _, false, rfl, .own C, .base (.tup hb), T.nt, _, rfl, if_fa rfl k⟩
theorem ok_Company_eq {f C CC fE : Addr} {fd fdE : FuncData} (F : Fun K "__eq__" "Company.__eq__" s_Company_eq f fd) (T : TiX K mg C) (c : CoX K mg CC) (nis : mg "isinstance" = none)
    (FE : FnOk P w K mg base CX0 1 fE fdE ["self", "other"] (spTEq C)) (aE : PySem.W.findIn K (.ref C) "__eq__" = some (some (.ref fE))) (iE : PySem.W.isFn K (.ref fE) = true) (bE : Binds K fdE ["self", "other"] []) : FnOk P w K mg base CX0 2 f fd ["self", "other"] (spCEq C CC) := by
  refine F.ok sc_Company_eq (fun vs H Q E h => ?_) (fun cdv A outer s H vs Q E hr h => ?_)
  · obtain ⟨x, y, ns, ms, is, js, tss, uss, rfl, _⟩ := h
    rfl
  · obtain ⟨x, y, ns, ms, is, js, tss, uss, rfl, ⟨dx, t, g, r, b, p, ps, kvs, a1, a2, a3, a4, _⟩, ⟨dy, t', g', r', b', p', ps', kvs', c1, c2, c3, c4, _⟩, k⟩ := h
    refine ⟨_, (pss_cons 
  (ps_if (pt_not (pt_val (pe_callB call_isi (by rfl) nis (by decide +kernel) (pa_cons (pv 1) (pa_cons (pe_glob (v := .ref CC) rfl c.mC rfl) pa_nil))))) (pss_one 
    (ps_ret pe_bl)) pss_nil) (pss_one 
  (ps_ret (pe_and (pe_cmpR (op_eqOwn FE aE iE bE pass0 hr T.nf) (pe_fld (pv 0) rfl) (pe_fld (pv 1) rfl) (nomark _)) (pe_and (pe_cmpR (op_eqD hr.units) (pe_fld (pv 0) rfl) (pe_fld (pv 1) rfl) (nomark _)) (pe_one (pe_cmpR (op_eqD hr.units) (pe_fld (pv 0) rfl) (pe_fld (pv 1) rfl) (nomark _)))))))), ?_⟩
    obtain ⟨d1, tb1, w1, w2⟩ := id a2
    obtain ⟨d2, tb2, w3, w4⟩ := id c2
    refine ⟨_, rfl, _, _, _, _, true, rfl, .own CC, .base (.ins c1 c.cl c.isc.ha c.isc.hn c.isc.htk c.isc.hm), c.isc.me, _, rfl, iteF ?_⟩
    refine ⟨_, rfl, x, CC, dx, _, _, rfl, a1, c.cl, c.nT, cf_ties _ _ _ _ _, _, rfl, y, CC, dy, _, _, rfl, c1, c.cl, c.nT, cf_ties _ _ _ _ _, t, t', d1, _, rfl, rfl, w1, .inl ⟨d2, _, w3⟩, t, t', ns, rfl, a2, .inl ⟨ms, c2, ⟨_, rfl⟩, _, rfl, ?_⟩⟩
    by_cases h1 : ns = ms
    case neg =>
      refine if_fa (decide_eq_false h1) ?_
      rw [decide_eq_false (fun z => h1 z.1)] at k
      exact k
    refine if_tr (decide_eq_true h1) ?_
    refine ⟨_, rfl, x, CC, dx, _, _, rfl, a1, c.cl, c.nG, cf_guests _ _ _ _ _, _, rfl, y, CC, dy, _, _, rfl, c1, c.cl, c.nG, cf_guests _ _ _ _ _, _, _, .tup (SqT.of a3) (dp_ints is), .tup (SqT.of c3) (dp_ints js), shaped_ti is, shaped_ti js, _, rfl, ?_⟩
    rw [eqv_ti]
    by_cases h2 : is = js
    case neg =>
      refine if_fa (decide_eq_false h2) ?_
      rw [decide_eq_false (fun z => h2 z.2.1)] at k
      exact k
    refine if_tr (decide_eq_true h2) ?_
    refine ⟨_, rfl, x, CC, dx, _, _, rfl, a1, c.cl, c.nR, cf_rows _ _ _ _ _, _, rfl, y, CC, dy, _, _, rfl, c1, c.cl, c.nR, cf_rows _ _ _ _ _, _, _, .tup (SqT.of a4.1) (dp_rowsD a4.2.1 fun j a ts e1 e2 => (a4.2.2 j a ts e1 e2).1), .tup (SqT.of c4.1) (dp_rowsD c4.2.1 fun j a ts e1 e2 => (c4.2.2 j a ts e1 e2).1), shaped_rowsD tss, shaped_rowsD uss, ?_⟩
    have e : PyData.eqv (.tuple (rowsD tss)) (.tuple (rowsD uss)) = decide (ns = ms ∧ is = js ∧ tss = uss) := by
      rw [show PyData.eqv (.tuple (rowsD tss)) (.tuple (rowsD uss)) = PyData.eqvAll (rowsD tss) (rowsD uss) by simp only [PyData.eqv], eqv_rowsD]
      simp [h1, h2]
    rw [e]
    exact k
end
end J

set_option Elab.async false
set_option linter.all false
set_option maxRecDepth 100000
set_option maxHeartbeats 4000000
namespace J
open PySem PySem.Spec PyProof.Rows L2
/-! ### labels that are drawn -/
abbrev s_Llabels : Stmt := top 27
theorem sc_Llabels : FnScope ["_law_hand_here", "_law_many", "_law_base", "_law_step", "_law_k"] ["_law_hand_here", "_law_many"] (defScope s_Llabels) := ⟨rfl, rfl, rfl, by decide +kernel, rfl, by decide +kernel, by decide +kernel⟩
def spLabels : Sp := fun vs H Q _ => ∃ (h q : Addr) (m : Nat), vs = [.ref h, .int (m : Nat)] ∧ m ≤ 1000 ∧ Hand H h q ∧ ∀ (H' : Hp) (l : Addr) (ns : List Int), ns.length = m → Asc ns → (∀ n ∈ ns, 0 ≤ n ∧ n ≤ 1000000000) → But h H H' → Hand H' h q → H l = none → H' l = some (.lst (ns.map V.int)) → Q (.ref l) H'
/-- labels by a first one and a step -/
def LabOk (m : Nat) (c d : Int) : Prop := 0 ≤ c ∧ 1 ≤ d ∧ ∀ k : Nat, k < m → c + (k : Int) * d ≤ 1000000000
def labsOf (m : Nat) (c d : Int) : List Int := (List.range m).map fun k => c + (0 + ((k : Nat) : Int)) * d
theorem labs_at {m : Nat} {c d : Int} {i : Nat} {a : Int} (e : (labsOf m c d)[i]? = some a) : i < m ∧ a = c + (i : Int) * d := by
  have hi := (List.getElem?_eq_some_iff.mp e).1
  unfold labsOf at hi e
  rw [List.length_map, List.length_range] at hi
  rw [List.getElem?_map, List.getElem?_range hi] at e
  have q : c + (0 + (i : Int)) * d = a := Option.some.inj e
  rw [Int.zero_add] at q
  exact ⟨hi, q.symm⟩
theorem labs_asc {m : Nat} {c d : Int} (h : LabOk m c d) : Asc (labsOf m c d) := by
  intro i a b e1 e2
  obtain ⟨_, rfl⟩ := labs_at e1
  obtain ⟨_, rfl⟩ := labs_at e2
  have h1 := h.2.1
  have : ((i + 1 : Nat) : Int) * d = (i : Int) * d + d := by
    rw [show ((i + 1 : Nat) : Int) = (i : Int) + 1 by omega, Int.add_mul, Int.one_mul]
  omega
theorem labs_in {m : Nat} {c d : Int} (h : LabOk m c d) : ∀ n ∈ labsOf m c d, 0 ≤ n ∧ n ≤ 1000000000 := by
  intro n hn
  obtain ⟨i, e⟩ := List.getElem?_of_mem hn
  obtain ⟨hi, rfl⟩ := labs_at e
  have h0 := h.1
  have h1 := h.2.1
  have h2 := h.2.2 i hi
  have h3 : 0 ≤ (i : Int) * d := Int.mul_nonneg (by omega) (by omega)
  omega
theorem labs_small {m : Nat} {c d : Int} (hm : m ≤ 1000) (h0 : 0 ≤ c) (h3 : c < 3) (hd : d = 1) : LabOk m c d := by
  subst hd
  refine ⟨h0, by omega, fun k hk => ?_⟩
  rw [Int.mul_one]
  omega
theorem labs_wide {m : Nat} {c e u : Int} (hu : (if ((m : Nat) : Int) > 1 then ((m : Nat) : Int) else 1) = u) (u0 : 0 < u) (c0 : 0 ≤ c) (c1 : c < 100000000) (e0 : 0 ≤ e) (e1 : e < 9 * 100000000 / u) : LabOk m c (1 + e) := by
  refine ⟨c0, by omega, fun k hk => ?_⟩
  have hm : (m : Int) ≤ u := by
    rw [← hu]
    split <;> omega
  have h1 : (1 + e) * u ≤ 9 * 100000000 := Int.mul_le_of_le_ediv u0 (by omega)
  have h2 : (k : Int) * (1 + e) ≤ u * (1 + e) := Int.mul_le_mul_of_nonneg_right (by omega) (by omega)
  rw [Int.mul_comm u] at h2
  omega
theorem But.free {h l : Addr} {H H' : Hp} (B : But h H H') (n : l ≠ h) (e : H' l = none) : H l = none := by
  cases q : H l with
  | none => rfl
  | some o =>
    have := B _ _ n q
    rw [e] at this
    cases this
section
variable {P : Program} {w : World} {K : PySem.W.Frag} {mg : Str → Option Value} {base : Heap}
theorem ok_Llabels {f fD : Addr} {fd fdD : FuncData} (F : Fun K "_law_labels" "_law_labels" s_Llabels f fd) (nr : mg "range" = none) (nm : mg "max" = none) (GD : Cal P w K mg base CX0 2 "_law_draw" fD fdD ["_law_hand_here", "_law_many"] spDraw) : FnOk P w K mg base CX0 3 f fd ["_law_hand_here", "_law_many"] spLabels := by
  refine F.ok sc_Llabels (fun vs H Q E h => ?_) (fun cdv A outer s H vs Q E hr h => ?_)
  · obtain ⟨h, q, m, rfl, _⟩ := h
    rfl
  · obtain ⟨h, q, m, rfl, hm, hh, k⟩ := h
    refine ⟨_, (pss_cons 
  (ps_set (i := 2) sc_Llabels.nd rfl (Or.inr rfl) (pcal GD hr pass0 (pa_cons (pv 0) (pa_cons pe_int pa_nil)))) (pss_cons 
  (ps_set (i := 3) sc_Llabels.nd rfl (Or.inr rfl) pe_int) (C8.pss_cut 
  (ps_if (pt_cmpR op_eq (pcal GD hr pass0 (pa_cons (pv 0) (pa_cons pe_int pa_nil))) pe_int (nomark _)) (pss_cons 
    (ps_set (i := 2) sc_Llabels.nd rfl (Or.inr rfl) (pcal GD hr pass0 (pa_cons (pv 0) (pa_cons (pe_op op_pow pe_int pe_int) pa_nil)))) (pss_one 
    (ps_set (i := 3) sc_Llabels.nd rfl (Or.inr rfl) (pe_op op_add pe_int (pcal GD hr pass0 (pa_cons (pv 0) (pa_cons (pe_op op_fdivW (pe_op op_mul pe_int (pe_op op_pow pe_int pe_int)) (pe_callB (call_max2 rfl) (by rfl) nm (by decide +kernel) (pa_cons pe_int (pa_cons (pv 1) pa_nil)))) pa_nil))))))) pss_nil) (pss_one 
  (ps_ret (pe_lc (own := [("_law_k", 4)]) (g := gName 4) (by rfl) sc_Llabels.nd (pi_range1 (by rfl) nr (pa_cons (pv 1) pa_nil)) (blkOk_by (own := [("_law_k", 4)]) (N := ["_law_hand_here", "_law_many", "_law_base", "_law_step", "_law_k"]) (sc := defScope s_Llabels) (by decide +kernel)) (fun _ _ _ _ _ => pg_name (i := 4) sc_Llabels.nd rfl (Or.inl rfl)) (fun _ _ _ _ _ => pts_nil) (fun _ _ _ _ _ => (pe_op op_add (pv 2) (pe_op op_mul (pv 4) (pv 3)))))))))), ?_⟩
    refine ⟨_, rfl, h, q, 3, rfl, by decide, by decide, hh, fun b H1 b0 b1 B1 h1 => ⟨fun σ' H' => ∃ c d : Int, σ' = [some (.ref h), some (.int (m : Nat)), some (.int c), some (.int d), none] ∧ LabOk m c d ∧ But h H H' ∧ Hand H' h q, ?_, ?_⟩⟩
    · refine ⟨_, rfl, h, q, 2, rfl, by decide, by decide, h1, fun z H2 z0 z1 B2 h2 => ⟨rfl, _, rfl, ?_⟩⟩
      refine ifD (fun c => ?_) (fun c => ⟨_, _, rfl, labs_small hm b0 b1 rfl, B1.trans B2, h2⟩)
      refine ⟨_, rfl, _, _, rfl, rfl, ⟨by decide, by decide, by decide⟩, h, q, _, rfl, by decide +kernel, by decide +kernel, h2, fun c2 H3 c0 c1 B3 h3 => ?_⟩
      have e9 : (10 : Int) ^ (8 : Int).toNat = 100000000 := by decide +kernel
      have mx : ∃ u : Int, (if ((m : Nat) : Int) > 1 then ((m : Nat) : Int) else 1) = u ∧ 0 < u ∧ u ≤ 1000 := by
        refine ⟨_, rfl, ?_⟩
        split <;> omega
      obtain ⟨u, eu, u0, u1⟩ := mx
      refine ⟨_, rfl, _, _, rfl, rfl, ⟨by decide, by decide, by decide⟩, _, _, rfl, rfl, .inl ⟨by decide, by decide⟩, _, rfl, _, _, rfl, ?_⟩
      rw [eu, e9]
      refine ⟨_, _, rfl, rfl, wide_div (b := 62) u0 (by omega) (by decide) (by decide), h, q, _, rfl, ?_, ?_, h3, fun c3 H4 y0 y1 B4 h4 => ⟨_, _, rfl, rfl, _, _, rfl, labs_wide eu u0 c0 (by rw [e9] at c1; exact c1) y0 y1, ((B1.trans B2).trans B3).trans B4, h4⟩⟩
      · have := Int.le_ediv_of_mul_le (a := 1) (b := 9 * 100000000) u0 (by omega)
        show (0 : Int) < 9 * 100000000 / u
        omega
      · have := Int.ediv_le_self (a := 9 * 100000000) u (by decide)
        show (9 * 100000000 / u : Int) < 2 ^ 62
        omega
    · rintro σ' H' ⟨c, d, rfl, LO, B, hh'⟩
      refine ⟨_, rfl, (m : Nat), rfl, by omega, by omega, fun D hD => ?_⟩
      have nD := (hh'.h_ne hD).1
      refine lc_range (lo := 0) (n := m) (fun i H5 => H5 D = some (.lst ((labsOf i c d).map V.int)) ∧ Same H' H5 ∧ H' D = none) ⟨upd_same, new_same hD, hD⟩ ?_ ?_
      · rintro i H5 hi ⟨eD, S5, D0⟩
        refine ⟨rfl, yesT ?_⟩
        refine ⟨_, rfl, _, rfl, _, rfl, _, _, rfl, rfl, .inl ⟨by omega, by omega⟩, _, _, rfl, rfl, _, eD, ?_, by rw [upd_same]; unfold labsOf; rw [List.range_succ, List.map_append, List.map_append]; rfl, fun b o e => ?_, D0⟩
        · rw [List.length_map]
          unfold labsOf
          rw [List.length_map, List.length_range]
          exact small1000 (by omega)
        · rw [upd_ne (ne_of_none e D0)]
          exact S5 _ _ e
      · rintro H5 ⟨eD, S5, D0⟩
        exact k H5 D (labsOf m c d) (by unfold labsOf; rw [List.length_map, List.length_range]) (labs_asc LO) (labs_in LO) (B.trans (But.same S5)) (hh'.keep S5) (B.free nD.symm D0) eD
end
end J

set_option Elab.async false
set_option linter.all false
set_option maxRecDepth 100000
set_option maxHeartbeats 4000000
namespace J
open PySem PySem.Spec PyProof.Rows L2
/-! ### objects are made: Ties, Company -/
/-- rows of ties: each as long as its place -/
def Rows (m : Nat) (tss : List (List Int)) : Prop := ∀ (j : Nat) (ts : List Int), tss[j]? = some ts → ts.length = j ∧ ∀ t ∈ ts, 0 ≤ t ∧ t < (m : Nat)
def LinesAt (H : Hp) (l : Addr) (ps : List Addr) (tss : List (List Int)) : Prop := H l = some (.lst (ps.map V.ref)) ∧ ps.length = tss.length ∧ ∀ (j : Nat) (a : Addr) (ts : List Int), ps[j]? = some a → tss[j]? = some ts → a ≠ l ∧ H a = some (.lst (ts.map V.int))
theorem LinesAt.keep {H H' : Hp} {l : Addr} {ps : List Addr} {tss : List (List Int)} (h : LinesAt H l ps tss) (S : Same H H') : LinesAt H' l ps tss :=
  ⟨S _ _ h.1, h.2.1, fun j a ts e1 e2 => ⟨(h.2.2 j a ts e1 e2).1, S _ _ (h.2.2 j a ts e1 e2).2⟩⟩
theorem made_same {H : Hp} {x dx : Addr} {o u : HO} (hx : H x = none) (hd : H dx = none) : Same H (upd (upd H dx o) x u) := fun b v e => by
  rw [upd_ne (ne_of_none e hx), upd_ne (ne_of_none e hd)]
  exact e
theorem made_but {H H' : Hp} {x dx : Addr} {o u : HO} (hx : H x = none) (hd : H dx = none) (B : ∀ b v, b ≠ x → (upd (upd H dx o) x u) b = some v → H' b = some v) : Same H H' := fun b v e => B b v (ne_of_none e hx) (made_same hx hd b v e)
theorem map_int_inj : ∀ {xs ys : List Int}, xs.map V.int = ys.map V.int → xs = ys
  | [], [], _ => rfl
  | [], _ :: _, h => by cases h
  | _ :: _, [], h => by cases h
  | x :: xs, y :: ys, h => by
    rw [List.map_cons, List.map_cons] at h
    injection h with h1 h2
    injection h1 with h1
    rw [h1, map_int_inj h2]
theorem mk_ties {C CB : Addr} {H : Hp} {E : XK} {R : Addr → VK} {ns : List Int} {v : V} {s : Sh} (hs : Is H v s) (g : GoodB ns) (hq : (s.isL || s.isT) = true) (hi : items s = ns.map V.int) (k : ∀ (H' : Hp) (x : Addr), Same H H' → H x = none → TiesAt C H' x ns → R x .non H') :
    ∀ x dx, H x = none → H dx = none → dx ≠ x → spTies C CB [.ref x, v] (upd (upd H dx (.own x)) x (.ins C dx [])) (R x) E := by
  intro x dx hx hd _
  have S := made_same (H := H) (o := .own x) (u := .ins C dx []) hx hd
  have dn : due s = none := by
    cases s with
    | sc u => cases hq
    | dk => cases hq
    | lst xs => have e : xs = ns.map V.int := hi; subst e; exact due_of g
    | tup xs => have e : xs = ns.map V.int := hi; subst e; exact due_of g
  refine ⟨x, dx, v, s, rfl, upd_same, hs.keep S, fun y hy => ?_, fun w e => ?_, fun ms _ e H' B T => ?_⟩
  · rw [hi] at hy
    obtain ⟨n, _, rfl⟩ := List.mem_map.mp hy
    exact ⟨.sc (.int n), rfl, rfl⟩
  · rw [dn] at e
    cases e
  · obtain rfl := map_int_inj (hi.symm.trans e)
    exact k H' x (made_but hx hd B) hx T
theorem rowW_ok {m n : Nat} {s : Sh} {ts : List Int} (sq : (s.isL || s.isT) = true) (hi : items s = ts.map V.int) (hl : ts.length = n) (hr : ∀ t ∈ ts, 0 ≤ t ∧ t < (m : Nat)) : rowW m n s = none := by
  unfold rowW
  rw [if_pos sq, hi, List.length_map, if_pos hl, if_pos]
  intro x hx
  obtain ⟨t, ht, rfl⟩ := List.mem_map.mp hx
  obtain ⟨a, b⟩ := hr t ht
  show (decide (0 ≤ t) && decide (t ≤ ((m : Nat) : Int) - 1)) = true
  rw [decide_eq_true a, decide_eq_true (by omega)]
  rfl
/-- rows as they are handed in: shapes of sequences that hold these ints -/
def ShRows (ss : List Sh) (tss : List (List Int)) : Prop := ss.length = tss.length ∧ ∀ (j : Nat) (s : Sh) (ts : List Int), ss[j]? = some s → tss[j]? = some ts → (s.isL || s.isT) = true ∧ items s = ts.map V.int
theorem due_good {m : Nat} {sg sr : Sh} {ss : List Sh} {is : List Int} {tss : List (List Int)} (qg : (sg.isL || sg.isT) = true) (qr : (sr.isL || sr.isT) = true) (hg : items sg = is.map V.int) (hr : (items sr).length = ss.length) (S : ShRows ss tss) (tl : tss.length = is.length)
    (l60 : is.length ≤ 60) (asc : Asc is) (labs : ∀ n ∈ is, 0 ≤ n ∧ n ≤ 1000000000) (R : Rows m tss) : dueC m sg sr ss = none := by
  have gl : (items sg).length = is.length := by rw [hg, List.length_map]
  refine due_ok (by rw [qg, qr]; rfl) (by omega) (fun j hj => ?_) (by have := S.1; omega)
  have hji : j < is.length := by omega
  have ij := List.getElem?_eq_getElem hji
  have tj := List.getElem?_eq_getElem (l := tss) (i := j) (by omega)
  have sj := List.getElem?_eq_getElem (l := ss) (i := j) (by have := S.1; omega)
  obtain ⟨q1, q2⟩ := S.2 j _ _ sj tj
  obtain ⟨r1, r2⟩ := R j _ tj
  have gj : (items sg)[j]? = some (.int is[j]) := by rw [hg, List.getElem?_map, ij]; rfl
  obtain ⟨b0, b1⟩ := labs _ (List.mem_of_getElem? ij)
  have wl : wholeB (.int is[j]) 0 1000000000 = true := by
    show (decide (0 ≤ is[j]) && decide (is[j] ≤ 1000000000)) = true
    rw [decide_eq_true b0, decide_eq_true b1]
    rfl
  have o : ordB (items sg) j = false := by
    cases j with
    | zero => exact ord_zero
    | succ j =>
      have ij' := List.getElem?_eq_getElem (l := is) (i := j) (by omega)
      rw [ord_ints (a := is[j]) (by rw [hg, List.getElem?_map, ij']; rfl) gj]
      have := asc j _ _ ij' ij
      exact decide_eq_false (by omega)
  rw [word_row gj wl o sj]
  exact rowW_ok q1 q2 r1 r2
theorem mk_comp {C CC CB : Addr} {H : Hp} {E : XK} {Rr : Addr → VK} {ns is : List Int} {tss : List (List Int)} {t : Addr} {g r : V} {sg sr : Sh} {ss : List Sh} (T : TiesAt C H t ns) (ig : Is H g sg) (ir : Is H r sr) (sa : ShAll H (items sr) ss) (qg : (sg.isL || sg.isT) = true) (qr : (sr.isL || sr.isT) = true) (hg : items sg = is.map V.int) (S : ShRows ss tss)
    (tl : tss.length = is.length) (l60 : is.length ≤ 60) (asc : Asc is) (labs : ∀ n ∈ is, 0 ≤ n ∧ n ≤ 1000000000) (R : Rows ns.length tss) (k : ∀ (H' : Hp) (x : Addr), Same H H' → H x = none → CompAt C CC H' x ns is tss → Rr x .non H') :
    ∀ x dx, H x = none → H dx = none → dx ≠ x → spCompI C CC CB [.ref x, .ref t, g, r] (upd (upd H dx (.own x)) x (.ins CC dx [])) (Rr x) E := by
  intro x dx hx hd _
  have SS := made_same (H := H) (o := .own x) (u := .ins CC dx []) hx hd
  have dn : dueC ns.length sg sr ss = none := due_good qg qr hg sa.len S tl l60 asc labs R
  refine ⟨x, dx, t, ns, g, r, sg, sr, ss, rfl, upd_same, T.keep SS, ig.keep SS, fun y hy => ?_, ir.keep SS, sa.keep SS, ?_, fun i u e => ?_, fun _ H' js uss B e1 _ e3 e4 c => ?_⟩
  · rw [hg] at hy
    obtain ⟨n, _, rfl⟩ := List.mem_map.mp hy
    exact ⟨.sc (.int n), rfl, rfl⟩
  · rw [hg, List.length_map]
    omega
  · rw [dn] at e
    cases e
  · obtain rfl := map_int_inj (hg.symm.trans e1)
    have eq : uss = tss := by
      refine List.ext_getElem (by omega) fun j h1 h2 => ?_
      have sj := List.getElem?_eq_getElem (l := ss) (i := j) (by have := S.1; omega)
      have q1 := e4 j _ _ sj (List.getElem?_eq_getElem h1)
      have q2 := (S.2 j _ _ sj (List.getElem?_eq_getElem h2)).2
      exact map_int_inj (q1.symm.trans q2)
    rw [eq] at c
    exact k H' x (made_but hx hd B) hx c
/-! ### rows that are handed in: lists, tuples in a list -/
theorem ints_known {H : Hp} (ts : List Int) : Known H (ts.map V.int) := fun y hy => by
  obtain ⟨n, _, rfl⟩ := List.mem_map.mp hy
  exact ⟨.sc (.int n), rfl, rfl⟩
def shL (tss : List (List Int)) : List Sh := tss.map fun ts => .lst (ts.map V.int)
def shT (tss : List (List Int)) : List Sh := tss.map fun ts => .tup (ts.map V.int)
theorem shL_rows (tss : List (List Int)) : ShRows (shL tss) tss := by
  refine ⟨List.length_map _, fun j s ts e1 e2 => ?_⟩
  unfold shL at e1
  rw [List.getElem?_map, e2] at e1
  obtain rfl := Option.some.inj e1
  exact ⟨rfl, rfl⟩
theorem shT_rows (tss : List (List Int)) : ShRows (shT tss) tss := by
  refine ⟨List.length_map _, fun j s ts e1 e2 => ?_⟩
  unfold shT at e1
  rw [List.getElem?_map, e2] at e1
  obtain rfl := Option.some.inj e1
  exact ⟨rfl, rfl⟩
theorem shL_all {H : Hp} : ∀ {ps : List Addr} {tss : List (List Int)}, ps.length = tss.length → (∀ (j : Nat) (a : Addr) (ts : List Int), ps[j]? = some a → tss[j]? = some ts → H a = some (.lst (ts.map V.int))) → ShAll H (ps.map V.ref) (shL tss)
  | [], [], _, _ => .nil
  | [], _ :: _, h, _ => by cases h
  | _ :: _, [], h, _ => by cases h
  | p :: ps, t :: ts, h, f => .cons ⟨⟨p, rfl, f 0 p t rfl rfl⟩, ints_known t⟩ (shL_all (Nat.succ.inj h) fun j a b e1 e2 => f (j + 1) a b (by simpa using e1) (by simpa using e2))
theorem shT_all {H : Hp} : ∀ {ps : List Addr} {tss : List (List Int)}, ps.length = tss.length → (∀ (j : Nat) (a : Addr) (ts : List Int), ps[j]? = some a → tss[j]? = some ts → H a = some (.tup (ts.map V.int))) → ShAll H (ps.map V.ref) (shT tss)
  | [], [], _, _ => .nil
  | [], _ :: _, h, _ => by cases h
  | _ :: _, [], h, _ => by cases h
  | p :: ps, t :: ts, h, f => .cons ⟨⟨p, rfl, f 0 p t rfl rfl⟩, ints_known t⟩ (shT_all (Nat.succ.inj h) fun j a b e1 e2 => f (j + 1) a b (by simpa using e1) (by simpa using e2))
/-- a list of lists as data -/
def linesD (tss : List (List Int)) : List PyData := tss.map fun ts => .list (ts.map PyData.int)
theorem eqv_linesD : ∀ tss uss : List (List Int), PyData.eqvAll (linesD tss) (linesD uss) = decide (tss = uss)
  | [], [] => by simp [linesD, PyData.eqvAll]
  | [], u :: us => by simp [linesD, PyData.eqvAll]
  | t :: ts, [] => by simp [linesD, PyData.eqvAll]
  | t :: ts, u :: us => by
    have ih := eqv_linesD ts us
    have h1 := eqv_li t u
    show (PyData.eqv (.list (t.map PyData.int)) (.list (u.map PyData.int)) && PyData.eqvAll (linesD ts) (linesD us)) = _
    rw [h1, ih]
    by_cases h : t = u
    · by_cases h2 : ts = us
      · simp [h, h2]
      · simp [h, h2]
    · simp [h]
theorem lay_linesD : ∀ tss : List (List Int), PyData.canLayAll0 (linesD tss) = true ∧ PyData.depthAll (linesD tss) ≤ 2
  | [] => by simp [linesD, PyData.canLayAll0, PyData.depthAll]
  | t :: ts => by
    obtain ⟨a, b⟩ := lay_linesD ts
    have h1 := ints_lay t
    have h2 := ints_depth t
    refine ⟨?_, ?_⟩
    · show (PyData.canLay0 (.list (t.map PyData.int)) && PyData.canLayAll0 (linesD ts)) = true
      rw [a, Bool.and_true]
      simp only [PyData.canLay0]
      exact h1
    · show max (PyData.depth (.list (t.map PyData.int))) (PyData.depthAll (linesD ts)) ≤ 2
      simp only [PyData.depth]
      omega
theorem shaped_linesD (tss : List (List Int)) : SeqAt.shaped (.list (linesD tss)) = true := by
  obtain ⟨a, b⟩ := lay_linesD tss
  show (PyData.canLay0 (.list (linesD tss)) && decide (PyData.depth (.list (linesD tss)) ≤ 64)) = true
  rw [Bool.and_eq_true]
  refine ⟨by simp only [PyData.canLay0]; exact a, decide_eq_true ?_⟩
  simp only [PyData.depth]
  omega
theorem eqv_lines (tss uss : List (List Int)) : PyData.eqv (.list (linesD tss)) (.list (linesD uss)) = decide (tss = uss) := by
  rw [show PyData.eqv (.list (linesD tss)) (.list (linesD uss)) = PyData.eqvAll (linesD tss) (linesD uss) by simp only [PyData.eqv], eqv_linesD]
theorem dp_linesD {K : PySem.W.Frag} {H : Hp} : ∀ {ps : List Addr} {tss : List (List Int)}, ps.length = tss.length → (∀ (j : Nat) (a : Addr) (ts : List Int), ps[j]? = some a → tss[j]? = some ts → H a = some (.lst (ts.map V.int))) → DpAll K H (ps.map V.ref) (linesD tss)
  | [], [], _, _ => .nil
  | [], _ :: _, h, _ => by cases h
  | _ :: _, [], h, _ => by cases h
  | p :: ps, t :: ts, h, f => .cons (.lst (SqL.of (f 0 p t rfl rfl)) (dp_ints t)) (dp_linesD (Nat.succ.inj h) fun j a b e1 e2 => f (j + 1) a b (by simpa using e1) (by simpa using e2))
theorem LinesAt.dp {K : PySem.W.Frag} {H : Hp} {l : Addr} {ps : List Addr} {tss : List (List Int)} (L : LinesAt H l ps tss) : Dp K H (.ref l) (.list (linesD tss)) := .lst (SqL.of L.1) (dp_linesD L.2.1 fun j a ts e1 e2 => (L.2.2 j a ts e1 e2).2)
theorem LinesAt.sh {H : Hp} {l : Addr} {ps : List Addr} {tss : List (List Int)} (L : LinesAt H l ps tss) : ShAll H (ps.map V.ref) (shL tss) := shL_all L.2.1 fun j a ts e1 e2 => (L.2.2 j a ts e1 e2).2
end J

set_option Elab.async false
set_option linter.all false
set_option maxRecDepth 100000
set_option maxHeartbeats 4000000
namespace J
open PySem PySem.Spec PyProof.Rows L2
/-! ### a place for a newcomer -/
/-- how many guests have lesser labels -/
def below (is : List Int) (n : Int) : Nat := (is.filter fun y => decide (y < n)).length
theorem below_le {is : List Int} {n : Int} : below is n ≤ is.length := List.length_filter_le ..
theorem filter_take {is : List Int} {n : Int} {i : Nat} {y : Int} (h : is[i]? = some y) : (is.take (i + 1)).filter (fun y => decide (y < n)) = (is.take i).filter (fun y => decide (y < n)) ++ (if y < n then [y] else []) := by
  rw [List.take_add_one, h, List.filter_append]
  congr 1
  by_cases c : y < n
  · rw [if_pos c]
    show [y].filter _ = _
    rw [List.filter_cons, if_pos (decide_eq_true c)]
    rfl
  · rw [if_neg c]
    show [y].filter _ = _
    rw [List.filter_cons, if_neg (by simp [c])]
    rfl
abbrev s_Company__place_for : Stmt := inClass (top 17) 13
theorem sc_Company__place_for : FnScope ["self", "label", "guest"] ["self", "label"] (defScope s_Company__place_for) := ⟨rfl, rfl, rfl, by decide +kernel, rfl, by decide +kernel, by decide +kernel⟩
def spPF (C CC CB : Addr) : Sp := fun vs H Q E => ∃ (x : Addr) (ns is : List Int) (tss : List (List Int)) (v : V) (s : Sh), vs = [.ref x, v] ∧ CompAt C CC H x ns is tss ∧ Is H v s ∧
  (is.length = 60 → Tells2 H CB "index" "what" (.int 60) (.str "many") E) ∧ (is.length ≠ 60 → wholeB v 0 1000000000 = false → Tells2 H CB "index" "what" (.int 0) (.str "label") E) ∧
  (is.length ≠ 60 → ∀ j, seat is v = some j → Tells2 H CB "index" "what" (.int (j : Nat)) (.str "label") E) ∧
  (is.length ≠ 60 → ∀ n : Int, v = .int n → wholeB v 0 1000000000 = true → seat is v = none → ∀ H', Same H H' → Q (.int (below is n : Nat)) H')
section
variable {P : Program} {w : World} {K : PySem.W.Frag} {mg : Str → Option Value} {base : Heap}
theorem ok_Company_place_for {f C CC CB CN fB fC fX fP : Addr} {fd fdB fdC fdX fdP : FuncData} (F : Fun K "_place_for" "Company._place_for" s_Company__place_for f fd) (c : CoC K CC) (nl : mg "len" = none) (mG : ∃ t, mg "MOST_GUESTS" = some (.int 60 t))
    (GB : Cal P w K mg base CX0 2 "is_label" fB fdB ["thing"] spLabel) (FC : FnOk P w K mg base CX0 3 fC fdC ["self", "label"] (spCIn C CC)) (aC : PySem.W.findIn K (.ref CC) "__contains__" = some (some (.ref fC))) (iC : PySem.W.isFn K (.ref fC) = true) (bC : Binds K fdC ["self", "label"] [])
    (GP : Mt P w K mg base (L2.CX P w) 4 CC "place_of" fP fdP ["self", "label"] (spCPlace C CC CN)) (GX : Ex2 P w K mg base "BadCompany" "index" "what" CB fX fdX ["self", "index", "what"]) :
    FnOk P w K mg base (L2.CX P w) 5 f fd ["self", "label"] (spPF C CC CB) := by
  obtain ⟨tG, mG⟩ := mG
  refine F.okX sc_Company__place_for (fun vs H Q E h => ?_) (fun cdv A outer s H vs Q E hr h => ?_)
  · obtain ⟨x, ns, is, tss, v, s, rfl, _⟩ := h
    rfl
  · obtain ⟨x, ns, is, tss, v, s, rfl, hC, hv, k1, k2, k3, k4⟩ := h
    obtain ⟨dx, t, g, r, b, p, ps, kvs, a1, a2, a3, a4, a5, a6, a7, a8, a9, a10, a11⟩ := id hC
    have hr2 : Room 2 _ := hr.mono (by decide)
    have hr3 : Room 3 _ := hr.mono (by decide)
    refine ⟨_, (pss_cons 
  (ps_if (pt_cmpR op_eq (pe_callB call_len_seq (by rfl) nl PySem.boot_len (pa_cons (pe_fld (pv 0) rfl) pa_nil)) (pe_glob (v := .int 60) rfl mG ⟨_, rfl⟩) (nomark _)) (pss_one 
    (ps_raise rfl (takes_of rfl rfl rfl rfl) (pmk_oex GX.o GX.i GX.t GX.F hr2 GX.b .nil pass0 rfl GX.m (pa_cons (pe_glob (v := .int 60) rfl mG ⟨_, rfl⟩) (pa_cons pe_str pa_nil))))) pss_nil) (pss_cons 
  (ps_if (pt_not (pt_val (pcal GB hr pass0 (pa_cons (pv 1) pa_nil)))) (pss_one 
    (ps_raise rfl (takes_of rfl rfl rfl rfl) (pmk_oex GX.o GX.i GX.t GX.F hr2 GX.b .nil pass0 rfl GX.m (pa_cons pe_int (pa_cons pe_str pa_nil))))) pss_nil) (pss_cons 
  (ps_if (pt_cmpR (op_inOwn FC aC iC bC pass0 hr3) (pv 1) (pv 0) (by rfl)) (pss_one 
    (ps_raise rfl (takes_of rfl rfl rfl rfl) (pmk_oex GX.o GX.i GX.t GX.F hr2 GX.b .nil pass0 rfl GX.m (pa_cons (pe_meth (pv 0) c.cl GP.M GP.F hr GP.b .nil passL (pa_cons (pv 1) pa_nil)) (pa_cons pe_str pa_nil))))) pss_nil) (pss_one 
  (ps_ret (pe_callB call_len_seq (by rfl) nl PySem.boot_len (pa_cons (pe_lc (own := [("guest", 2)]) (g := gName 2) (by rfl) sc_Company__place_for.nd (pi_tup (pe_fld (pv 0) rfl)) (blkOk_by (own := [("guest", 2)]) (N := ["self", "label", "guest"]) (sc := defScope s_Company__place_for) (by decide +kernel)) (fun _ _ _ _ _ => pg_name (i := 2) sc_Company__place_for.nd rfl (Or.inl rfl)) (fun _ _ _ _ _ => pts_one (pt_cmpR op_lt (pv 2) (pv 1) (nomark _))) (fun _ _ _ _ _ => (pv 2))) pa_nil))))))), ?_⟩
    refine ⟨_, rfl, x, CC, dx, _, _, rfl, a1, c.cl, c.nG, cf_guests _ _ _ _ _, g, _, rfl, .inr (SqT.of a3), rfl, _, rfl, ?_⟩
    rw [List.length_map]
    by_cases c60 : is.length = 60
    · exact if_tr (by simp [c60]) (mkO_of2 (k1 c60))
    refine if_fa (decide_eq_false fun z => c60 (by injection z with z; omega)) ?_
    refine ⟨_, rfl, v, s, rfl, hv, _, rfl, ?_⟩
    cases e : wholeB v 0 1000000000 with
    | false => exact iteT (mkO_of2 (k2 c60 e))
    | true =>
      refine iteF ⟨_, rfl, _, rfl, x, dx, _, rfl, a1, ⟨x, ns, is, tss, v, s, rfl, hC, hv, _, rfl, _, rfl, ?_⟩⟩
      cases es : seat is v with
      | some j =>
        refine iteT ⟨_, rfl, x, dx, _, rfl, a1, cf_no _ _ _ _ _ (by decide +kernel) (by decide +kernel) (by decide +kernel) (by decide +kernel) (by decide +kernel), _, rfl, x, ns, is, tss, v, s, rfl, hC, hv, fun i ei => ?_, fun e0 => by rw [es] at e0; cases e0⟩
        obtain rfl : j = i := by rw [es] at ei; exact Option.some.inj ei
        exact mkO_of2 (k3 c60 j es)
      | none =>
        obtain ⟨n, rfl, n0, n1⟩ := whole_int e
        refine iteF ⟨_, rfl, x, CC, dx, _, _, rfl, a1, c.cl, c.nG, cf_guests _ _ _ _ _, g, rfl, ⟨_, SqT.of a3⟩, fun D hD => ?_⟩
        refine lc_tup (K := K) (a := g) (xs := is.map V.int) (fun i H2 => Same H H2 ∧ H D = none ∧ H2 D = some (.lst (((is.take i).filter fun y => decide (y < n)).map V.int))) ⟨new_same hD, hD, upd_same⟩ (fun i H2 _ ⟨S, _⟩ => SqT.of (S _ _ a3)) ?_ ?_
        · rintro i y H2 hy ⟨S2, D0, eD⟩
          rw [List.getElem?_map] at hy
          cases hi : is[i]? with
          | none => rw [hi] at hy; cases hy
          | some m =>
            rw [hi] at hy
            obtain rfl : V.int m = y := Option.some.inj hy
            have him := (List.getElem?_eq_some_iff.mp hi).1
            refine ⟨rfl, _, rfl, _, rfl, _, _, rfl, rfl, _, rfl, ?_⟩
            have ft := filter_take (n := n) hi
            refine ifD (fun c1 => ?_) (fun c1 => ?_)
            · rw [if_pos c1] at ft
              refine ⟨_, rfl, _, eD, small1000 ?_, fun b' o e' => ?_, D0, by rw [upd_same, ft, List.map_append]; rfl⟩
              · rw [List.length_map]
                have := List.length_filter_le (fun y => decide (y < n)) (is.take i)
                rw [List.length_take] at this
                omega
              · rw [upd_ne (ne_of_none e' D0)]
                exact S2 _ _ e'
            · rw [if_neg c1, List.append_nil] at ft
              exact ⟨S2, D0, by rw [ft]; exact eD⟩
        · rintro H2 ⟨S2, D0, eD⟩
          rw [List.length_map, List.take_length] at eD
          refine ⟨D, _, rfl, .inl (SqL.of eD), ?_⟩
          rw [List.length_map]
          exact k4 c60 n rfl e es _ S2
end
end J

set_option Elab.async false
set_option linter.all false
set_option maxRecDepth 100000
set_option maxHeartbeats 8000000
namespace J
open PySem PySem.Spec PyProof.Rows L2
/-! ### a newcomer among guests and rows -/
theorem Asc.tail {y : Int} {ys : List Int} (a : Asc (y :: ys)) : Asc ys := fun j b c e1 e2 => a (j + 1) b c (by simpa using e1) (by simpa using e2)
theorem Asc.head {y : Int} : ∀ {ys : List Int}, Asc (y :: ys) → ∀ z ∈ ys, y < z
  | [], _, z, h => by cases h
  | x :: xs, a, z, h => by
    have q := a 0 y x rfl rfl
    rcases List.mem_cons.mp h with rfl | h
    · exact q
    · have := Asc.head a.tail z h
      omega
theorem below_cons {y n : Int} {ys : List Int} : below (y :: ys) n = if y < n then below ys n + 1 else below ys n := by
  unfold below
  by_cases c : y < n
  · rw [if_pos c, List.filter_cons, if_pos (decide_eq_true c)]
    rfl
  · rw [if_neg c, List.filter_cons, if_neg (by simp [c])]
theorem below_zero {n : Int} {ys : List Int} (h : ∀ z ∈ ys, ¬ z < n) : below ys n = 0 := by
  unfold below
  rw [List.filter_eq_nil_iff.mpr fun z hz => by simpa using h z hz]
  rfl
theorem below_spec {n : Int} : ∀ {is : List Int}, Asc is → ∀ (i : Nat) (y : Int), is[i]? = some y → (y < n ↔ i < below is n)
  | [], _, i, y, e => by simp at e
  | x :: xs, a, i, y, e => by
    rw [below_cons]
    by_cases c : x < n
    · rw [if_pos c]
      cases i with
      | zero =>
        obtain rfl : x = y := by simpa using e
        exact ⟨fun _ => Nat.succ_pos _, fun _ => c⟩
      | succ i =>
        rw [below_spec a.tail i y (by simpa using e)]
        omega
    · rw [if_neg c]
      have z : below xs n = 0 := below_zero fun w hw => by
        have := a.head w hw
        omega
      rw [z]
      refine ⟨fun h => ?_, fun h => absurd h (Nat.not_lt_zero _)⟩
      have ym := List.mem_of_getElem? e
      rcases List.mem_cons.mp ym with rfl | ym
      · exact absurd h c
      · have := a.head y ym
        omega
def insL (is : List Int) (n : Int) : List Int := is.take (below is n) ++ [n] ++ is.drop (below is n)
theorem insL_len {is : List Int} {n : Int} : (insL is n).length = is.length + 1 := by
  have := below_le (is := is) (n := n)
  unfold insL
  rw [List.length_append, List.length_append, List.length_take, List.length_drop]
  have l : [n].length = 1 := rfl
  omega
theorem insL_at {is : List Int} {n : Int} {j : Nat} {y : Int} (h : (insL is n)[j]? = some y) : (j < below is n ∧ is[j]? = some y) ∨ (j = below is n ∧ y = n) ∨ (below is n < j ∧ is[j - 1]? = some y) := by
  have b := below_le (is := is) (n := n)
  unfold insL at h
  rcases Nat.lt_trichotomy j (below is n) with c | c | c
  · left
    rw [List.append_assoc, List.getElem?_append_left (by rw [List.length_take]; omega), List.getElem?_take_of_lt c] at h
    exact ⟨c, h⟩
  · right; left
    rw [List.append_assoc, List.getElem?_append_right (by rw [List.length_take]; omega), List.length_take, show j - min (below is n) is.length = 0 by omega] at h
    exact ⟨c, (Option.some.inj h).symm⟩
  · right; right
    rw [List.getElem?_append_right (by rw [List.length_append, List.length_take]; have l : [n].length = 1 := rfl; omega), List.length_append, List.length_take, List.getElem?_drop] at h
    have l : [n].length = 1 := rfl
    rw [show below is n + (j - (min (below is n) is.length + [n].length)) = j - 1 by omega] at h
    exact ⟨c, h⟩
theorem insL_asc {is : List Int} {n : Int} (a : Asc is) (h : ∀ y ∈ is, y ≠ n) : Asc (insL is n) := by
  intro j x y e1 e2
  rcases insL_at e1 with ⟨c1, q1⟩ | ⟨c1, q1⟩ | ⟨c1, q1⟩
  · rcases insL_at e2 with ⟨c2, q2⟩ | ⟨c2, q2⟩ | ⟨c2, q2⟩
    · exact a j x y q1 q2
    · rw [q2]
      exact (below_spec a j x q1).mpr c1
    · omega
  · rcases insL_at e2 with ⟨c2, q2⟩ | ⟨c2, q2⟩ | ⟨c2, q2⟩
    · omega
    · omega
    · rw [q1]
      have z : ¬ y < n := fun w => by
        have := (below_spec a _ y q2).mp w
        omega
      have := h y (List.mem_of_getElem? q2)
      omega
  · rcases insL_at e2 with ⟨c2, q2⟩ | ⟨c2, q2⟩ | ⟨c2, q2⟩
    · omega
    · omega
    · exact a (j - 1) x y q1 (by rw [show j - 1 + 1 = j by omega]; simpa using q2)
theorem insL_mem {is : List Int} {n y : Int} (h : y ∈ insL is n) : y = n ∨ y ∈ is := by
  obtain ⟨j, hj⟩ := List.getElem?_of_mem h
  rcases insL_at hj with ⟨_, q⟩ | ⟨_, q⟩ | ⟨_, q⟩
  · exact .inr (List.mem_of_getElem? q)
  · exact .inl q
  · exact .inr (List.mem_of_getElem? q)
theorem seat_no {is : List Int} {n : Int} (h : seat is (.int n) = none) : ∀ y ∈ is, y ≠ n := fun y hy e => by
  have q : is.findIdx? (fun y => decide (y = n)) = none := h
  rw [List.findIdx?_eq_none_iff] at q
  have := q y hy
  simp [e] at this
/-- a later guest's row, with the tie to the newcomer put in -/
def laterR (ns us : List Int) (tss : List (List Int)) (p j : Nat) : List Int := ((tss[j]?).getD []).take p ++ [(ns[((us[j]?).getD 0).toNat]?).getD 0] ++ ((tss[j]?).getD []).drop p
/-- the rows with the newcomer at place p, k later ones of them -/
def withK (ns us : List Int) (tss : List (List Int)) (p k : Nat) : List (List Int) := tss.take p ++ [us.take p] ++ (List.range k).map fun i => laterR ns us tss p (p + i)
/-- all rows with the newcomer at place p -/
def withR (ns us : List Int) (tss : List (List Int)) (p : Nat) : List (List Int) := withK ns us tss p (tss.length - p)
theorem withK_succ {ns us : List Int} {tss : List (List Int)} {p k : Nat} : withK ns us tss p (k + 1) = withK ns us tss p k ++ [laterR ns us tss p (p + k)] := by
  unfold withK
  rw [List.range_succ, List.map_append, ← List.append_assoc]
  rfl
theorem withK_len {ns us : List Int} {tss : List (List Int)} {p k : Nat} (h : p ≤ tss.length) : (withK ns us tss p k).length = p + 1 + k := by
  unfold withK
  rw [List.length_append, List.length_append, List.length_take, List.length_map, List.length_range]
  have l : [us.take p].length = 1 := rfl
  omega
theorem withR_rows {ns us : List Int} {tss : List (List Int)} {p : Nat} (g : GoodB ns) (R : Rows ns.length tss) (h : p ≤ tss.length) (hu : us.length = tss.length) (ur : ∀ u ∈ us, 0 ≤ u ∧ u < (ns.length : Nat)) : Rows ns.length (withR ns us tss p) := by
  intro j ts e
  unfold withR withK at e
  rcases Nat.lt_trichotomy j p with c | c | c
  · rw [List.append_assoc, List.getElem?_append_left (by rw [List.length_take]; omega), List.getElem?_take_of_lt c] at e
    exact R j ts e
  · rw [List.append_assoc, List.getElem?_append_right (by rw [List.length_take]; omega), List.length_take, show j - min p tss.length = 0 by omega] at e
    obtain rfl : us.take p = ts := Option.some.inj e
    exact ⟨by rw [List.length_take]; omega, fun t ht => ur t (List.mem_of_mem_take ht)⟩
  · have l : [us.take p].length = 1 := rfl
    rw [List.getElem?_append_right (by rw [List.length_append, List.length_take]; omega), List.length_append, List.length_take, List.getElem?_map] at e
    have hj : j - (min p tss.length + [us.take p].length) < tss.length - p := by
      cases q : (List.range (tss.length - p))[j - (min p tss.length + [us.take p].length)]? with
      | none => rw [q] at e; cases e
      | some z =>
        have := (List.getElem?_eq_some_iff.mp q).1
        rwa [List.length_range] at this
    rw [List.getElem?_range hj] at e
    obtain rfl : laterR ns us tss p (p + (j - (min p tss.length + [us.take p].length))) = ts := Option.some.inj e
    rw [show p + (j - (min p tss.length + [us.take p].length)) = j - 1 by omega]
    have jt : j - 1 < tss.length := by omega
    have et := List.getElem?_eq_getElem jt
    have eu := List.getElem?_eq_getElem (l := us) (i := j - 1) (by omega)
    obtain ⟨r1, r2⟩ := R _ _ et
    have ub := ur _ (List.mem_of_getElem? eu)
    unfold laterR
    rw [et, eu]
    show (tss[j - 1].take p ++ [(ns[(us[j - 1]'(by omega)).toNat]?).getD 0] ++ tss[j - 1].drop p).length = j ∧ _
    have en := List.getElem?_eq_getElem (l := ns) (i := (us[j - 1]'(by omega)).toNat) (by omega)
    refine ⟨?_, fun t ht => ?_⟩
    · rw [List.length_append, List.length_append, List.length_take, List.length_drop]
      have l2 : [(ns[(us[j - 1]'(by omega)).toNat]?).getD 0].length = 1 := rfl
      omega
    · rw [List.mem_append, List.mem_append, List.mem_singleton] at ht
      rcases ht with (ht | ht) | ht
      · exact r2 t (List.mem_of_mem_take ht)
      · have hz : (ns[(us[j - 1]'(by omega)).toNat]?).getD 0 ∈ ns := by
          rw [en]
          exact List.mem_of_getElem? en
        rw [ht]
        exact g.rng _ hz
      · exact r2 t (List.mem_of_mem_drop ht)
/-- rows of a list that is being made -/
def RowR (D : Addr) (H : Hp) (v : V) (ts : List Int) : Prop := ∃ a, v = .ref a ∧ a ≠ D ∧ (H a = some (.tup (ts.map V.int)) ∨ H a = some (.lst (ts.map V.int)))
def AtRows (D : Addr) (H : Hp) (acc : List V) (T : List (List Int)) : Prop := acc.length = T.length ∧ ∀ (j : Nat) (v : V) (ts : List Int), acc[j]? = some v → T[j]? = some ts → RowR D H v ts
theorem AtRows.fr {D : Addr} {H H' : Hp} {acc : List V} {T : List (List Int)} (h : AtRows D H acc T) (f : ∀ a o, a ≠ D → H a = some o → H' a = some o) : AtRows D H' acc T := ⟨h.1, fun j v ts e1 e2 => by
  obtain ⟨a, r1, r2, r3⟩ := h.2 j v ts e1 e2
  exact ⟨a, r1, r2, r3.imp (f a _ r2) (f a _ r2)⟩⟩
theorem AtRows.snoc {D : Addr} {H : Hp} {acc : List V} {T : List (List Int)} {v : V} {ts : List Int} (h : AtRows D H acc T) (r : RowR D H v ts) : AtRows D H (acc ++ [v]) (T ++ [ts]) := by
  refine ⟨by rw [List.length_append, List.length_append, h.1]; rfl, fun j u us e1 e2 => ?_⟩
  rcases Nat.lt_or_ge j acc.length with c | c
  · rw [List.getElem?_append_left c] at e1
    rw [List.getElem?_append_left (by have := h.1; omega)] at e2
    exact h.2 j u us e1 e2
  · have cj : j = acc.length := by
      have := (List.getElem?_eq_some_iff.mp e1).1
      rw [List.length_append] at this
      have l : [v].length = 1 := rfl
      omega
    subst cj
    rw [List.getElem?_append_right (Nat.le_refl _), Nat.sub_self] at e1
    rw [h.1, List.getElem?_append_right (Nat.le_refl _), Nat.sub_self] at e2
    obtain rfl : v = u := Option.some.inj e1
    obtain rfl : ts = us := Option.some.inj e2
    exact r
theorem AtRows.shapes {D : Addr} {H : Hp} : ∀ {acc : List V} {T : List (List Int)}, AtRows D H acc T → ∃ ss, ShAll H acc ss ∧ ShRows ss T
  | [], [], _ => ⟨[], .nil, rfl, fun j s ts e => by simp at e⟩
  | [], _ :: _, h => by have := h.1; cases this
  | _ :: _, [], h => by have := h.1; cases this
  | v :: acc, t :: T, h => by
    obtain ⟨ss, s1, s2⟩ := AtRows.shapes (acc := acc) (T := T) ⟨Nat.succ.inj h.1, fun j u us e1 e2 => h.2 (j + 1) u us (by simpa using e1) (by simpa using e2)⟩
    obtain ⟨a, rfl, _, r3⟩ := h.2 0 v t rfl rfl
    rcases r3 with r3 | r3
    · refine ⟨.tup (t.map V.int) :: ss, .cons ⟨⟨a, rfl, r3⟩, ints_known t⟩ s1, by rw [List.length_cons, List.length_cons, s2.1], fun j s ts e1 e2 => ?_⟩
      cases j with
      | zero =>
        obtain rfl : Sh.tup (t.map V.int) = s := by simpa using e1
        obtain rfl : t = ts := by simpa using e2
        exact ⟨rfl, rfl⟩
      | succ j => exact s2.2 j s ts (by simpa using e1) (by simpa using e2)
    · refine ⟨.lst (t.map V.int) :: ss, .cons ⟨⟨a, rfl, r3⟩, ints_known t⟩ s1, by rw [List.length_cons, List.length_cons, s2.1], fun j s ts e1 e2 => ?_⟩
      cases j with
      | zero =>
        obtain rfl : Sh.lst (t.map V.int) = s := by simpa using e1
        obtain rfl : t = ts := by simpa using e2
        exact ⟨rfl, rfl⟩
      | succ j => exact s2.2 j s ts (by simpa using e1) (by simpa using e2)
end J

set_option Elab.async false
set_option linter.all false
set_option maxRecDepth 100000
set_option maxHeartbeats 8000000
namespace J
open PySem PySem.Spec PyProof.Rows L2
/-! ### slices and sums of tuples that stand in the heap -/
theorem row_ints {m k : Nat} {s : Sh} (h : rowW m k s = none) : ∃ us : List Int, items s = us.map V.int ∧ ∀ u ∈ us, 0 ≤ u ∧ u < (m : Nat) := by
  unfold rowW at h
  split at h
  · split at h
    · split at h
      · rename_i q
        obtain ⟨ns, e, r⟩ := all_ints q
        exact ⟨ns, e, fun u hu => ⟨(r u hu).1, by have := (r u hu).2; omega⟩⟩
      · cases h
    · cases h
  · cases h
theorem row_len {m k : Nat} {s : Sh} {us : List Int} (h : rowW m k s = none) (e : items s = us.map V.int) : us.length = k := by
  unfold rowW at h
  split at h
  · split at h
    · rename_i q
      rw [e, List.length_map] at q
      exact q
    · cases h
  · cases h
def rSlN : V → Option Int → Option Int → Hp → VK → Prop := fun x lo hi H Q => ∃ a xs, x = .ref a ∧ H a = some (.tup xs) ∧ ∀ H' z, Same H H' → H' z = some (.tup (cutV xs lo hi)) → Q (.ref z) H'
theorem cut_whole {xs : List V} {lo hi : Option Int} (h : HT.sIx xs.length 0 lo = 0 ∧ HT.sIx xs.length xs.length hi = xs.length) : cutV xs lo hi = xs := by
  unfold cutV
  rw [h.1, h.2]
  simp
theorem sl_tupN {X : Cx} : SlR X rSlN := by
  intro pins s σ H x v vl vu lo hi sl Q I rx hs pl pu h
  obtain ⟨a, xs, rfl, ha, q⟩ := h
  exact sl_tupA pins s σ H _ v vl vu lo hi sl Q I rx hs pl pu ⟨a, xs, rfl, SqT.of ha, fun w => q H a (Same.refl _) (by rw [cut_whole w]; exact ha), fun _ p hp => q _ p (new_same hp) upd_same⟩
def rCatN : R2 := fun x y H Q => ∃ a b xs ys, x = .ref a ∧ y = .ref b ∧ H a = some (.tup xs) ∧ H b = some (.tup ys) ∧ xs.length + ys.length ≤ 1000 ∧ ∀ H' z, Same H H' → H' z = some (.tup (xs ++ ys)) → Q (.ref z) H'
theorem op_catN {X : Cx} : OpR X (binaryOp .Add) rCatN := by
  intro pins s σ H x y v u Q I rx ry h
  obtain ⟨a, b, xs, ys, rfl, rfl, ha, hb, hl, q⟩ := h
  exact op_catA pins s σ H _ _ v u Q I rx ry ⟨a, b, xs, ys, rfl, rfl, SqT.of ha, SqT.of hb, Nat.le_of_lt (small1000 hl), fun e => q H b (Same.refl _) (by rw [e]; exact hb), fun _ e => q H a (Same.refl _) (by rw [e, List.append_nil]; exact ha), fun _ _ p hp => q _ p (new_same hp) upd_same⟩
theorem cut_take {xs : List V} {k : Nat} (h : k ≤ xs.length) : cutV xs none (some ((k : Nat) : Int)) = xs.take k := by
  unfold cutV
  rw [HT.sIx_none, HT.sIx_nat, Nat.min_eq_left h]
  simp
theorem cut_drop {xs : List V} {k : Nat} (h : k ≤ xs.length) : cutV xs (some ((k : Nat) : Int)) none = xs.drop k := by
  unfold cutV
  rw [HT.sIx_none, HT.sIx_nat, Nat.min_eq_left h]
  exact List.take_of_length_le (by rw [List.length_drop]; omega)
abbrev s_Company_with_row : Stmt := inClass (top 17) 10
theorem sc_Company_with_row : FnScope ["self", "label", "row", "place", "guests", "rows", "later", "old"] ["self", "label", "row"] (defScope s_Company_with_row) := ⟨rfl, rfl, rfl, by decide +kernel, rfl, by decide +kernel, by decide +kernel⟩
def spWR (C CC CB : Addr) : Sp := fun vs H Q E => ∃ (x : Addr) (ns is : List Int) (tss : List (List Int)) (v rv : V) (s sr : Sh), vs = [.ref x, v, rv] ∧ CompAt C CC H x ns is tss ∧ GoodB ns ∧ Is H v s ∧ Is H rv sr ∧ Known H (items sr) ∧
  (is.length = 60 → Tells2 H CB "index" "what" (.int 60) (.str "many") E) ∧ (is.length ≠ 60 → wholeB v 0 1000000000 = false → Tells2 H CB "index" "what" (.int 0) (.str "label") E) ∧
  (is.length ≠ 60 → ∀ j, seat is v = some j → Tells2 H CB "index" "what" (.int (j : Nat)) (.str "label") E) ∧
  (is.length ≠ 60 → ∀ n : Int, v = .int n → wholeB v 0 1000000000 = true → seat is v = none → (∀ u, rowW ns.length is.length sr = some u → Tells2 H CB "index" "what" (.int (below is n : Nat)) (.str u) E) ∧
    (rowW ns.length is.length sr = none → ∀ us, items sr = us.map V.int → ∀ (H' : Hp) (z : Addr), Same H H' → CompAt C CC H' z ns (insL is n) (withR ns us tss (below is n)) → Q (.ref z) H'))
section
variable {P : Program} {w : World} {K : PySem.W.Frag} {mg : Str → Option Value} {base : Heap}
theorem ok_Company_with_row {f C CC CB CN CI fP fR fB fJ : Addr} {fd fdP fdR fdB fdJ : FuncData} (F : Fun K "with_row" "Company.with_row" s_Company_with_row f fd) (T : TiC K C) (c : CoC K CC) (nl : mg "len" = none) (nr : mg "range" = none) (nli : mg "list" = none)
    (GP : Mt P w K mg base (L2.CX P w) 5 CC "_place_for" fP fdP ["self", "label"] (spPF C CC CB)) (GR : Cal P w K mg base (L2.CX P w) 3 "_check_row" fR fdR ["ties", "index", "row", "length"] (spRow C CB)) (GBk : Mt P w K mg base (L2.CX P w) 3 C "back" fB fdB ["self", "tie"] (spBack C CI))
    (mC : mg "Company" = some (.ref CC)) (MJ : Mk K CC fJ) (FJ : FnOk P w K mg base (L2.CX P w) 5 fJ fdJ ["self", "ties", "guests", "rows"] (spCompI C CC CB)) (bJ : Binds K fdJ ["self", "ties", "guests", "rows"] []) :
    FnOk P w K mg base (L2.CX P w) 7 f fd ["self", "label", "row"] (spWR C CC CB) := by
  refine F.okX sc_Company_with_row (fun vs H Q E h => ?_) (fun cdv A outer s H vs Q E hr h => ?_)
  · obtain ⟨x, ns, is, tss, v, rv, s, sr, rfl, _⟩ := h
    rfl
  · obtain ⟨x, ns, is, tss, v, rv, s, sr, rfl, hC, gb, hv, hrv, kn, k1, k2, k3, k4⟩ := h
    obtain ⟨dx, t, g, r, b, p, ps, kvs, a1, a2, a3, a4, a5, a6, a7, a8, a9, a10, a11⟩ := id hC
    cases sr with
    | sc u =>
      refine ⟨_, (pss_cons 
  (ps_set (i := 3) sc_Company_with_row.nd rfl (Or.inl rfl) (pe_meth (pv 0) c.cl GP.M GP.F (hr.mono (by decide)) GP.b .nil (passes_call (takes_of rfl rfl rfl rfl) (fun _ _ _ _ h => h)) (pa_cons (pv 1) pa_nil))) (pss_cons 
  (ps_expr (pcal GR hr (passes_call (takes_of rfl rfl rfl rfl) (fun _ _ _ _ h => h)) (pa_cons (pe_fld (pv 0) rfl) (pa_cons (pv 3) (pa_cons (pv 2) (pa_cons (pe_callB call_len_seq (by rfl) nl PySem.boot_len (pa_cons (pe_fld (pv 0) rfl) pa_nil)) pa_nil)))))) (pss_cons 
  (ps_set (i := 4) sc_Company_with_row.nd rfl (Or.inl rfl) (pe_op op_catN (pe_op op_catN (pe_slice sl_tupN (pe_fld (pv 0) rfl) po_none (po_some (pv 3))) (pe_tup (pa_cons (pv 1) pa_nil))) (pe_slice sl_tupN (pe_fld (pv 0) rfl) (po_some (pv 3)) po_none))) (pss_cons 
  (ps_set (i := 5) sc_Company_with_row.nd rfl (Or.inl rfl) (pe_callTy (T := "list") (r := fun xs H Q => ∃ p ys, xs = [.ref p] ∧ (SqL K H p ys ∨ SqT K H p ys) ∧ ∀ l, H l = none → Q (.ref l) (upd H l (.lst ys))) call_list_of (by rfl) nli (by decide +kernel) (pa_cons (pe_slice sl_tupN (pe_fld (pv 0) rfl) po_none (po_some (pv 3))) pa_nil))) (pss_cons 
  (ps_expr (pe_bm PySem.F.plainAttrs_list PySem.F.slot_list_append PySem.F.type_list_append mt_append (pv 5) (pa_cons (pe_slice sl_list (pv 2) po_none (po_some (pv 3))) pa_nil))) (pss_cons 
  (ps_for (passes_of rfl) rfl (pi_range2 (by rfl) nr (pa_cons (pv 3) (pa_cons (pe_callB call_len_seq (by rfl) nl PySem.boot_len (pa_cons (pe_fld (pv 0) rfl) pa_nil)) pa_nil))) (pg_name (i := 6) sc_Company_with_row.nd rfl (Or.inl rfl)) (pss_cons 
    (ps_set (i := 7) sc_Company_with_row.nd rfl (Or.inl rfl) (pe_ix ix_tup (pe_fld (pv 0) rfl) (pv 6) (fun _ _ => rfl))) (pss_one 
    (ps_expr (pe_bm PySem.F.plainAttrs_list PySem.F.slot_list_append PySem.F.type_list_append mt_append (pv 5) (pa_cons (pe_op op_catN (pe_op op_catN (pe_slice sl_tupN (pv 7) po_none (po_some (pv 3))) (pe_tup (pa_cons (pe_meth (pe_fld (pv 0) rfl) T.cl GBk.M GBk.F (hr.mono (by decide)) GBk.b .nil passL (pa_cons (pe_ix ix_list (pv 2) (pv 6) (fun _ _ => rfl)) pa_nil)) pa_nil))) (pe_slice sl_tupN (pv 7) (po_some (pv 3)) po_none)) pa_nil)))))) (pss_one 
  (ps_ret (pe_make MJ FJ hr rfl mC bJ .nil passL (pa_cons (pe_fld (pv 0) rfl) (pa_cons (pv 4) (pa_cons (pv 5) pa_nil)))))))))))), ?_⟩
      refine ⟨_, rfl, x, dx, _, rfl, a1, cf_no _ _ _ _ _ (by decide +kernel) (by decide +kernel) (by decide +kernel) (by decide +kernel) (by decide +kernel), _, rfl, x, ns, is, tss, v, s, rfl, hC, hv, k1, k2, k3, fun c60 n ev ew es H1 S1 => ?_⟩
      obtain ⟨k5, k6⟩ := k4 c60 n ev ew es
      have il : (is.map V.int).length = is.length := List.length_map _
      refine ⟨_, rfl, x, CC, dx, _, _, rfl, S1 _ _ a1, c.cl, c.nT, cf_ties _ _ _ _ _, _, rfl, _, rfl, _, rfl, x, CC, dx, _, _, rfl, S1 _ _ a1, c.cl, c.nG, cf_guests _ _ _ _ _, g, _, rfl, .inr (SqT.of (S1 _ _ a3)), t, ns, below is n, (is.map V.int).length, rv, (.sc u), rfl, a2.keep S1, hrv.keep S1, kn.keep S1, fun u e => (k5 u (by rw [il] at e; exact e)).mono S1, fun e H2 S2 => ?_⟩
      rw [il] at e
      cases e
    | dk =>
      refine ⟨_, (pss_cons 
  (ps_set (i := 3) sc_Company_with_row.nd rfl (Or.inl rfl) (pe_meth (pv 0) c.cl GP.M GP.F (hr.mono (by decide)) GP.b .nil (passes_call (takes_of rfl rfl rfl rfl) (fun _ _ _ _ h => h)) (pa_cons (pv 1) pa_nil))) (pss_cons 
  (ps_expr (pcal GR hr (passes_call (takes_of rfl rfl rfl rfl) (fun _ _ _ _ h => h)) (pa_cons (pe_fld (pv 0) rfl) (pa_cons (pv 3) (pa_cons (pv 2) (pa_cons (pe_callB call_len_seq (by rfl) nl PySem.boot_len (pa_cons (pe_fld (pv 0) rfl) pa_nil)) pa_nil)))))) (pss_cons 
  (ps_set (i := 4) sc_Company_with_row.nd rfl (Or.inl rfl) (pe_op op_catN (pe_op op_catN (pe_slice sl_tupN (pe_fld (pv 0) rfl) po_none (po_some (pv 3))) (pe_tup (pa_cons (pv 1) pa_nil))) (pe_slice sl_tupN (pe_fld (pv 0) rfl) (po_some (pv 3)) po_none))) (pss_cons 
  (ps_set (i := 5) sc_Company_with_row.nd rfl (Or.inl rfl) (pe_callTy (T := "list") (r := fun xs H Q => ∃ p ys, xs = [.ref p] ∧ (SqL K H p ys ∨ SqT K H p ys) ∧ ∀ l, H l = none → Q (.ref l) (upd H l (.lst ys))) call_list_of (by rfl) nli (by decide +kernel) (pa_cons (pe_slice sl_tupN (pe_fld (pv 0) rfl) po_none (po_some (pv 3))) pa_nil))) (pss_cons 
  (ps_expr (pe_bm PySem.F.plainAttrs_list PySem.F.slot_list_append PySem.F.type_list_append mt_append (pv 5) (pa_cons (pe_slice sl_list (pv 2) po_none (po_some (pv 3))) pa_nil))) (pss_cons 
  (ps_for (passes_of rfl) rfl (pi_range2 (by rfl) nr (pa_cons (pv 3) (pa_cons (pe_callB call_len_seq (by rfl) nl PySem.boot_len (pa_cons (pe_fld (pv 0) rfl) pa_nil)) pa_nil))) (pg_name (i := 6) sc_Company_with_row.nd rfl (Or.inl rfl)) (pss_cons 
    (ps_set (i := 7) sc_Company_with_row.nd rfl (Or.inl rfl) (pe_ix ix_tup (pe_fld (pv 0) rfl) (pv 6) (fun _ _ => rfl))) (pss_one 
    (ps_expr (pe_bm PySem.F.plainAttrs_list PySem.F.slot_list_append PySem.F.type_list_append mt_append (pv 5) (pa_cons (pe_op op_catN (pe_op op_catN (pe_slice sl_tupN (pv 7) po_none (po_some (pv 3))) (pe_tup (pa_cons (pe_meth (pe_fld (pv 0) rfl) T.cl GBk.M GBk.F (hr.mono (by decide)) GBk.b .nil passL (pa_cons (pe_ix ix_list (pv 2) (pv 6) (fun _ _ => rfl)) pa_nil)) pa_nil))) (pe_slice sl_tupN (pv 7) (po_some (pv 3)) po_none)) pa_nil)))))) (pss_one 
  (ps_ret (pe_make MJ FJ hr rfl mC bJ .nil passL (pa_cons (pe_fld (pv 0) rfl) (pa_cons (pv 4) (pa_cons (pv 5) pa_nil)))))))))))), ?_⟩
      refine ⟨_, rfl, x, dx, _, rfl, a1, cf_no _ _ _ _ _ (by decide +kernel) (by decide +kernel) (by decide +kernel) (by decide +kernel) (by decide +kernel), _, rfl, x, ns, is, tss, v, s, rfl, hC, hv, k1, k2, k3, fun c60 n ev ew es H1 S1 => ?_⟩
      obtain ⟨k5, k6⟩ := k4 c60 n ev ew es
      have il : (is.map V.int).length = is.length := List.length_map _
      refine ⟨_, rfl, x, CC, dx, _, _, rfl, S1 _ _ a1, c.cl, c.nT, cf_ties _ _ _ _ _, _, rfl, _, rfl, _, rfl, x, CC, dx, _, _, rfl, S1 _ _ a1, c.cl, c.nG, cf_guests _ _ _ _ _, g, _, rfl, .inr (SqT.of (S1 _ _ a3)), t, ns, below is n, (is.map V.int).length, rv, .dk, rfl, a2.keep S1, hrv.keep S1, kn.keep S1, fun u e => (k5 u (by rw [il] at e; exact e)).mono S1, fun e H2 S2 => ?_⟩
      rw [il] at e
      cases e
    | lst us' =>
      refine ⟨_, (pss_cons 
  (ps_set (i := 3) sc_Company_with_row.nd rfl (Or.inl rfl) (pe_meth (pv 0) c.cl GP.M GP.F (hr.mono (by decide)) GP.b .nil (passes_call (takes_of rfl rfl rfl rfl) (fun _ _ _ _ h => h)) (pa_cons (pv 1) pa_nil))) (pss_cons 
  (ps_expr (pcal GR hr (passes_call (takes_of rfl rfl rfl rfl) (fun _ _ _ _ h => h)) (pa_cons (pe_fld (pv 0) rfl) (pa_cons (pv 3) (pa_cons (pv 2) (pa_cons (pe_callB call_len_seq (by rfl) nl PySem.boot_len (pa_cons (pe_fld (pv 0) rfl) pa_nil)) pa_nil)))))) (pss_cons 
  (ps_set (i := 4) sc_Company_with_row.nd rfl (Or.inl rfl) (pe_op op_catN (pe_op op_catN (pe_slice sl_tupN (pe_fld (pv 0) rfl) po_none (po_some (pv 3))) (pe_tup (pa_cons (pv 1) pa_nil))) (pe_slice sl_tupN (pe_fld (pv 0) rfl) (po_some (pv 3)) po_none))) (pss_cons 
  (ps_set (i := 5) sc_Company_with_row.nd rfl (Or.inl rfl) (pe_callTy (T := "list") (r := fun xs H Q => ∃ p ys, xs = [.ref p] ∧ (SqL K H p ys ∨ SqT K H p ys) ∧ ∀ l, H l = none → Q (.ref l) (upd H l (.lst ys))) call_list_of (by rfl) nli (by decide +kernel) (pa_cons (pe_slice sl_tupN (pe_fld (pv 0) rfl) po_none (po_some (pv 3))) pa_nil))) (pss_cons 
  (ps_expr (pe_bm PySem.F.plainAttrs_list PySem.F.slot_list_append PySem.F.type_list_append mt_append (pv 5) (pa_cons (pe_slice sl_list (pv 2) po_none (po_some (pv 3))) pa_nil))) (pss_cons 
  (ps_for (passes_of rfl) rfl (pi_range2 (by rfl) nr (pa_cons (pv 3) (pa_cons (pe_callB call_len_seq (by rfl) nl PySem.boot_len (pa_cons (pe_fld (pv 0) rfl) pa_nil)) pa_nil))) (pg_name (i := 6) sc_Company_with_row.nd rfl (Or.inl rfl)) (pss_cons 
    (ps_set (i := 7) sc_Company_with_row.nd rfl (Or.inl rfl) (pe_ix ix_tup (pe_fld (pv 0) rfl) (pv 6) (fun _ _ => rfl))) (pss_one 
    (ps_expr (pe_bm PySem.F.plainAttrs_list PySem.F.slot_list_append PySem.F.type_list_append mt_append (pv 5) (pa_cons (pe_op op_catN (pe_op op_catN (pe_slice sl_tupN (pv 7) po_none (po_some (pv 3))) (pe_tup (pa_cons (pe_meth (pe_fld (pv 0) rfl) T.cl GBk.M GBk.F (hr.mono (by decide)) GBk.b .nil passL (pa_cons (pe_ix ix_list (pv 2) (pv 6) (fun _ _ => rfl)) pa_nil)) pa_nil))) (pe_slice sl_tupN (pv 7) (po_some (pv 3)) po_none)) pa_nil)))))) (pss_one 
  (ps_ret (pe_make MJ FJ hr rfl mC bJ .nil passL (pa_cons (pe_fld (pv 0) rfl) (pa_cons (pv 4) (pa_cons (pv 5) pa_nil)))))))))))), ?_⟩
      refine ⟨_, rfl, x, dx, _, rfl, a1, cf_no _ _ _ _ _ (by decide +kernel) (by decide +kernel) (by decide +kernel) (by decide +kernel) (by decide +kernel), _, rfl, x, ns, is, tss, v, s, rfl, hC, hv, k1, k2, k3, fun c60 n ev ew es H1 S1 => ?_⟩
      obtain ⟨k5, k6⟩ := k4 c60 n ev ew es
      have il : (is.map V.int).length = is.length := List.length_map _
      refine ⟨_, rfl, x, CC, dx, _, _, rfl, S1 _ _ a1, c.cl, c.nT, cf_ties _ _ _ _ _, _, rfl, _, rfl, _, rfl, x, CC, dx, _, _, rfl, S1 _ _ a1, c.cl, c.nG, cf_guests _ _ _ _ _, g, _, rfl, .inr (SqT.of (S1 _ _ a3)), t, ns, below is n, (is.map V.int).length, rv, .lst us', rfl, a2.keep S1, hrv.keep S1, kn.keep S1, fun u e => (k5 u (by rw [il] at e; exact e)).mono S1, fun e H2 S2 => ?_⟩
      rw [il] at e
      obtain ⟨us, hus, ur⟩ := row_ints e
      have hus : us' = us.map V.int := hus
      subst hus
      have ul : us.length = is.length := row_len e rfl
      obtain ⟨ra, rfl, hra⟩ := hrv
      have S12 := S1.trans S2
      have b1 := S12 _ _ a1
      have b2 := a2.keep S12
      have b3 := S12 _ _ a3
      have b4 := a4.keep S12
      have bra := S12 _ _ hra
      have R : Rows ns.length tss := fun j ts et => by
        have hj := (List.getElem?_eq_some_iff.mp et).1
        have ep := List.getElem?_eq_getElem (l := ps) (i := j) (by have := a4.2.1; omega)
        exact (a4.2.2 j _ ts ep et).2
      have ple : below is n ≤ is.length := below_le
      have pl : ps.length = tss.length := a4.2.1
      clear S1 S2
      generalize hp : below is n = pp at *
      -- guests
      refine ⟨_, rfl, x, CC, dx, _, _, rfl, b1, c.cl, c.nG, cf_guests _ _ _ _ _, _, rfl, _, rfl, g, _, rfl, b3, fun H3 z3 S3 e3 => ?_⟩
      rw [cut_take (by omega)] at e3
      refine ⟨_, rfl, (by show 1 ≤ sizeLine; decide), fun z4 h4 => ?_⟩
      refine ⟨z3, z4, _, _, rfl, rfl, new_same h4 _ _ e3, upd_same, by rw [List.length_take]; show _ + 1 ≤ 1000; omega, fun H5 z5 S5 e5 => ?_⟩
      have S25 := (S3.trans (new_same h4)).trans S5
      refine ⟨_, rfl, x, CC, dx, _, _, rfl, S25 _ _ b1, c.cl, c.nG, cf_guests _ _ _ _ _, _, rfl, _, rfl, g, _, rfl, S25 _ _ b3, fun H6 z6 S6 e6 => ?_⟩
      rw [cut_drop (by omega)] at e6
      refine ⟨z5, z6, _, _, rfl, rfl, S6 _ _ e5, e6, by rw [List.length_append, List.length_take, List.length_drop]; show _ + 1 + _ ≤ 1000; omega, fun H7 gz S7 eg => ?_⟩
      have S27 := (S25.trans S6).trans S7
      have eg7 : H7 gz = some (.tup ((insL is n).map V.int)) := by
        rw [eg]
        unfold insL
        rw [hp, ev, List.map_append, List.map_append, List.map_take, List.map_drop]
        rfl
      clear e3 e5 e6 eg h4 S3 S5 S6 S7 S25
      have S07 := S12.trans S27
      have d1 := S27 _ _ b1
      have d2 := b2.keep S27
      have d3 := S27 _ _ b3
      have d4 := b4.keep S27
      have dra := S27 _ _ bra
      clear b1 b2 b3 b4 bra S12 S27
      -- rows
      refine ⟨_, rfl, x, CC, dx, _, _, rfl, d1, c.cl, c.nR, cf_rows _ _ _ _ _, _, rfl, _, rfl, r, _, rfl, d4.1, fun H8 z8 S8 e8 => ?_⟩
      rw [cut_take (by rw [List.length_map]; omega)] at e8
      refine ⟨z8, _, rfl, .inr (SqT.of e8), fun D hD => ?_⟩
      have D7 : H7 D = none := S8.free hD
      have eD9 : (upd H8 D (.lst ((ps.map V.ref).take pp))) D = some (.lst ((ps.map V.ref).take pp)) := upd_same
      have S79 := S8.trans (new_same (o := .lst ((ps.map V.ref).take pp)) hD)
      have A9 : AtRows D (upd H8 D (.lst ((ps.map V.ref).take pp))) ((ps.map V.ref).take pp) (tss.take pp) := by
        refine ⟨by rw [List.length_take, List.length_take, List.length_map, pl], fun j y ts e1 e2 => ?_⟩
        rw [List.getElem?_take] at e1 e2
        by_cases cj : j < pp
        · rw [if_pos cj] at e1 e2
          rw [List.getElem?_map] at e1
          cases ep : ps[j]? with
          | none => rw [ep] at e1; cases e1
          | some q =>
            rw [ep] at e1
            obtain rfl : V.ref q = y := Option.some.inj e1
            have w7 := (d4.2.2 j q ts ep e2).1
            exact ⟨q, rfl, ne_of_none w7 D7, .inl (S79 _ _ w7)⟩
        · rw [if_neg cj] at e1
          cases e1
      generalize upd H8 D (.lst ((ps.map V.ref).take pp)) = H9 at eD9 S79 A9
      clear e8 S8
      refine ⟨_, rfl, .inl ⟨rfl, _, SqL.of eD9⟩, _, rfl, _, rfl, _, rfl, ra, _, rfl, SqL.of (S79 _ _ dra), fun z10 h10 => ?_⟩
      rw [cut_take (by rw [List.length_map]; omega)]
      have e10 : (upd H9 z10 (.lst ((us.map V.int).take pp))) z10 = some (.lst ((us.map V.int).take pp)) := upd_same
      have S10 := new_same (o := .lst ((us.map V.int).take pp)) h10
      have z10D : z10 ≠ D := (ne_of_none eD9 h10).symm
      generalize upd H9 z10 (.lst ((us.map V.int).take pp)) = H10 at e10 S10
      refine ⟨D, _, _, rfl, rfl, S10 _ _ eD9, small1000 (by rw [List.length_take]; omega), ?_⟩
      have F11 : ∀ a o, a ≠ D → H7 a = some o → (upd H10 D (.lst ((ps.map V.ref).take pp ++ [.ref z10]))) a = some o := fun a o na ea => by
        rw [upd_ne na]
        exact S10 _ _ (S79 _ _ ea)
      have A11 : AtRows D (upd H10 D (.lst ((ps.map V.ref).take pp ++ [.ref z10]))) ((ps.map V.ref).take pp ++ [.ref z10]) (withK ns us tss pp 0) := by
        have z : withK ns us tss pp 0 = tss.take pp ++ [us.take pp] := by
          unfold withK
          simp
        rw [z]
        have q := (A9.fr (H' := upd H10 D (.lst ((ps.map V.ref).take pp ++ [.ref z10]))) fun a o na ea => by rw [upd_ne na]; exact S10 _ _ ea)
        refine q.snoc ⟨z10, rfl, z10D, .inr ?_⟩
        rw [upd_ne z10D, e10, List.map_take]
      have hn : (((((is.map V.int).length : Nat) : Int) - ((pp : Nat) : Int)).toNat) = tss.length - pp := by rw [il]; omega
      refine ⟨_, rfl, _, rfl, x, CC, dx, _, _, rfl, F11 _ _ (ne_of_none d1 D7) d1, c.cl, c.nG, cf_guests _ _ _ _ _, g, _, rfl, .inr (SqT.of (F11 _ _ (ne_of_none d3 D7) d3)), _, _, rfl, ⟨by omega, by omega, by omega, by omega⟩, for_range (lo := ((pp : Nat) : Int)) (n := ((((is.map V.int).length : Nat) : Int) - ((pp : Nat) : Int)).toNat) (fun i σ H' => ∃ (v6 v7 : Option V) (acc : List V), σ = [some (.ref x), some v, some (.ref ra), some (.int (pp : Nat)), some (.ref gz), some (.ref D), v6, v7] ∧ (∀ a o, a ≠ D → H7 a = some o → H' a = some o) ∧ H' D = some (.lst acc) ∧ AtRows D H' acc (withK ns us tss pp i))
        ⟨none, none, _, rfl, F11, upd_same, A11⟩ ?_ ?_⟩
      · rintro i σ H' hi ⟨v6, v7, acc, rfl, Fr, eD, AR⟩
        rw [hn] at hi
        have hlt : pp + i < ps.length := by omega
        obtain ⟨oa, ep⟩ : ∃ z, ps[pp + i]? = some z := ⟨_, List.getElem?_eq_getElem hlt⟩
        obtain ⟨ot, et⟩ : ∃ z, tss[pp + i]? = some z := ⟨_, List.getElem?_eq_getElem (by omega)⟩
        obtain ⟨u, eu⟩ : ∃ z, us[pp + i]? = some z := ⟨_, List.getElem?_eq_getElem (by omega)⟩
        obtain ⟨w1, wl, _⟩ := d4.2.2 _ _ _ ep et
        have lr : laterR ns us tss pp (pp + i) = ot.take pp ++ [(ns[u.toNat]?).getD 0] ++ ot.drop pp := by
          unfold laterR
          rw [et, eu]
          rfl
        have ub := ur _ (List.mem_of_getElem? eu)
        have f1 := Fr _ _ (ne_of_none d1 D7) d1
        have f2 : TiesAt C H' t ns := by
          obtain ⟨dt, tt, q1, q2⟩ := id d2
          exact ⟨dt, tt, Fr _ _ (ne_of_none q1 D7) q1, Fr _ _ (ne_of_none q2 D7) q2⟩
        have f4 := Fr _ _ (ne_of_none d4.1 D7) d4.1
        have fra := Fr _ _ (ne_of_none dra D7) dra
        have fo := Fr _ _ (ne_of_none w1 D7) w1
        refine ⟨_, rfl, x, CC, dx, _, _, rfl, f1, c.cl, c.nR, cf_rows _ _ _ _ _, _, rfl, _, _, _, _, rfl, rfl, SqT.of f4, at_of (j := pp + i) (v := .ref oa) (by omega) (by rw [List.getElem?_map, ep]; rfl), ?_⟩
        refine ⟨_, rfl, .inl ⟨rfl, _, SqL.of eD⟩, _, rfl, _, rfl, _, rfl, oa, _, rfl, fo, fun Ha za Sa ea => ?_⟩
        rw [cut_take (by rw [List.length_map]; omega)] at ea
        obtain ⟨dt, tt, ht, ht2⟩ := id (f2.keep Sa)
        refine ⟨_, rfl, x, CC, dx, _, _, rfl, Sa _ _ f1, c.cl, c.nT, cf_ties _ _ _ _ _, t, dt, _, rfl, ht, tf_no _ _ (by decide +kernel) (by decide +kernel), _, rfl, _, rfl, ra, _, _, .int u, rfl, rfl, SqL.of (Sa _ _ fra), at_of (j := pp + i) (v := .int u) (by omega) (by rw [List.getElem?_map, eu]; rfl), t, ns, .int u, .sc (.int u), rfl, f2.keep Sa, ⟨rfl, rfl⟩, fun k' b' ek eb => ?_, fun e' => absurd (show tieB ns (.int u) = true from whole_of ub.1 (by omega)) (by rw [e']; exact Bool.false_ne_true)⟩
        have hk : u.toNat = k' := by
          injection ek with ek
          omega
        rw [hk, eb] at lr
        refine ⟨(by show 1 ≤ sizeLine; decide), fun zb hb => ?_⟩
        refine ⟨za, zb, _, _, rfl, rfl, new_same hb _ _ ea, upd_same, by rw [List.length_take, List.length_map]; show _ + 1 ≤ 1000; omega, fun Hc zc Sc ec => ?_⟩
        have Sac := (Sa.trans (new_same hb)).trans Sc
        refine ⟨_, rfl, _, rfl, _, rfl, oa, _, rfl, Sac _ _ fo, fun Hd zd Sd ed => ?_⟩
        rw [cut_drop (by rw [List.length_map]; omega)] at ed
        refine ⟨zc, zd, _, _, rfl, rfl, Sd _ _ ec, ed, by rw [List.length_append, List.length_take, List.length_drop, List.length_map]; show _ + 1 + _ ≤ 1000; omega, fun He ze Se ee => ?_⟩
        have Sae := (Sac.trans Sd).trans Se
        have eDe := Sae _ _ eD
        have zeD : ze ≠ D := ne_of ee eDe (by intro z; cases z)
        have ee' : He ze = some (.tup ((laterR ns us tss pp (pp + i)).map V.int)) := by
          rw [ee, lr, List.map_append, List.map_append, List.map_take, List.map_drop]
          rfl
        refine ⟨D, _, _, rfl, rfl, eDe, small1000 (by rw [AR.1, withK_len (by omega)]; omega), _, _, _, rfl, fun a o na e' => by rw [upd_ne na]; exact Sae _ _ (Fr _ _ na e'), upd_same, ?_⟩
        rw [withK_succ]
        refine (AR.fr (fun a o na e' => by rw [upd_ne na]; exact Sae _ _ e')).snoc ⟨ze, rfl, zeD, .inl ?_⟩
        rw [upd_ne zeD]
        exact ee'
      · rintro σ H' ⟨v6, v7, acc, rfl, Fr, eD, AR⟩
        rw [hn] at AR
        have S7' : Same H7 H' := fun a o e' => Fr a o (ne_of_none e' D7) e'
        obtain ⟨ss, sa, sr'⟩ := AR.shapes
        obtain ⟨nn, enn, n0, n1⟩ := whole_int ew
        obtain rfl : n = nn := by rw [ev] at enn; injection enn
        have sno := seat_no (by rw [← ev]; exact es)
        refine ⟨_, rfl, x, CC, dx, _, _, rfl, S7' _ _ d1, c.cl, c.nT, cf_ties _ _ _ _ _, _, rfl, _, rfl, mk_comp (sg := .tup ((insL is n).map V.int)) (sr := .lst acc) (ss := ss) (tss := withR ns us tss pp) (d2.keep S7') ⟨gz, rfl, S7' _ _ eg7⟩ ⟨D, rfl, eD⟩ sa rfl rfl rfl sr' ?_ ?_ (insL_asc a8 sno) ?_ (withR_rows gb R (by omega) (by omega) ur) fun H10 z S10 nz cC => ⟨rfl, ?_⟩⟩
        · unfold withR
          rw [withK_len (by omega), insL_len]
          omega
        · rw [insL_len]
          omega
        · intro y hy
          rcases insL_mem hy with rfl | hy
          · exact ⟨n0, n1⟩
          · exact a11 y hy
        · exact k6 e us rfl H10 z ((S07.trans S7').trans S10) cC
    | tup us' =>
      refine ⟨_, (pss_cons 
  (ps_set (i := 3) sc_Company_with_row.nd rfl (Or.inl rfl) (pe_meth (pv 0) c.cl GP.M GP.F (hr.mono (by decide)) GP.b .nil (passes_call (takes_of rfl rfl rfl rfl) (fun _ _ _ _ h => h)) (pa_cons (pv 1) pa_nil))) (pss_cons 
  (ps_expr (pcal GR hr (passes_call (takes_of rfl rfl rfl rfl) (fun _ _ _ _ h => h)) (pa_cons (pe_fld (pv 0) rfl) (pa_cons (pv 3) (pa_cons (pv 2) (pa_cons (pe_callB call_len_seq (by rfl) nl PySem.boot_len (pa_cons (pe_fld (pv 0) rfl) pa_nil)) pa_nil)))))) (pss_cons 
  (ps_set (i := 4) sc_Company_with_row.nd rfl (Or.inl rfl) (pe_op op_catN (pe_op op_catN (pe_slice sl_tupN (pe_fld (pv 0) rfl) po_none (po_some (pv 3))) (pe_tup (pa_cons (pv 1) pa_nil))) (pe_slice sl_tupN (pe_fld (pv 0) rfl) (po_some (pv 3)) po_none))) (pss_cons 
  (ps_set (i := 5) sc_Company_with_row.nd rfl (Or.inl rfl) (pe_callTy (T := "list") (r := fun xs H Q => ∃ p ys, xs = [.ref p] ∧ (SqL K H p ys ∨ SqT K H p ys) ∧ ∀ l, H l = none → Q (.ref l) (upd H l (.lst ys))) call_list_of (by rfl) nli (by decide +kernel) (pa_cons (pe_slice sl_tupN (pe_fld (pv 0) rfl) po_none (po_some (pv 3))) pa_nil))) (pss_cons 
  (ps_expr (pe_bm PySem.F.plainAttrs_list PySem.F.slot_list_append PySem.F.type_list_append mt_append (pv 5) (pa_cons (pe_slice sl_tupN (pv 2) po_none (po_some (pv 3))) pa_nil))) (pss_cons 
  (ps_for (passes_of rfl) rfl (pi_range2 (by rfl) nr (pa_cons (pv 3) (pa_cons (pe_callB call_len_seq (by rfl) nl PySem.boot_len (pa_cons (pe_fld (pv 0) rfl) pa_nil)) pa_nil))) (pg_name (i := 6) sc_Company_with_row.nd rfl (Or.inl rfl)) (pss_cons 
    (ps_set (i := 7) sc_Company_with_row.nd rfl (Or.inl rfl) (pe_ix ix_tup (pe_fld (pv 0) rfl) (pv 6) (fun _ _ => rfl))) (pss_one 
    (ps_expr (pe_bm PySem.F.plainAttrs_list PySem.F.slot_list_append PySem.F.type_list_append mt_append (pv 5) (pa_cons (pe_op op_catN (pe_op op_catN (pe_slice sl_tupN (pv 7) po_none (po_some (pv 3))) (pe_tup (pa_cons (pe_meth (pe_fld (pv 0) rfl) T.cl GBk.M GBk.F (hr.mono (by decide)) GBk.b .nil passL (pa_cons (pe_ix ix_tup (pv 2) (pv 6) (fun _ _ => rfl)) pa_nil)) pa_nil))) (pe_slice sl_tupN (pv 7) (po_some (pv 3)) po_none)) pa_nil)))))) (pss_one 
  (ps_ret (pe_make MJ FJ hr rfl mC bJ .nil passL (pa_cons (pe_fld (pv 0) rfl) (pa_cons (pv 4) (pa_cons (pv 5) pa_nil)))))))))))), ?_⟩
      refine ⟨_, rfl, x, dx, _, rfl, a1, cf_no _ _ _ _ _ (by decide +kernel) (by decide +kernel) (by decide +kernel) (by decide +kernel) (by decide +kernel), _, rfl, x, ns, is, tss, v, s, rfl, hC, hv, k1, k2, k3, fun c60 n ev ew es H1 S1 => ?_⟩
      obtain ⟨k5, k6⟩ := k4 c60 n ev ew es
      have il : (is.map V.int).length = is.length := List.length_map _
      refine ⟨_, rfl, x, CC, dx, _, _, rfl, S1 _ _ a1, c.cl, c.nT, cf_ties _ _ _ _ _, _, rfl, _, rfl, _, rfl, x, CC, dx, _, _, rfl, S1 _ _ a1, c.cl, c.nG, cf_guests _ _ _ _ _, g, _, rfl, .inr (SqT.of (S1 _ _ a3)), t, ns, below is n, (is.map V.int).length, rv, .tup us', rfl, a2.keep S1, hrv.keep S1, kn.keep S1, fun u e => (k5 u (by rw [il] at e; exact e)).mono S1, fun e H2 S2 => ?_⟩
      rw [il] at e
      obtain ⟨us, hus, ur⟩ := row_ints e
      have hus : us' = us.map V.int := hus
      subst hus
      have ul : us.length = is.length := row_len e rfl
      obtain ⟨ra, rfl, hra⟩ := hrv
      have S12 := S1.trans S2
      have b1 := S12 _ _ a1
      have b2 := a2.keep S12
      have b3 := S12 _ _ a3
      have b4 := a4.keep S12
      have bra := S12 _ _ hra
      have R : Rows ns.length tss := fun j ts et => by
        have hj := (List.getElem?_eq_some_iff.mp et).1
        have ep := List.getElem?_eq_getElem (l := ps) (i := j) (by have := a4.2.1; omega)
        exact (a4.2.2 j _ ts ep et).2
      have ple : below is n ≤ is.length := below_le
      have pl : ps.length = tss.length := a4.2.1
      clear S1 S2
      generalize hp : below is n = pp at *
      -- guests
      refine ⟨_, rfl, x, CC, dx, _, _, rfl, b1, c.cl, c.nG, cf_guests _ _ _ _ _, _, rfl, _, rfl, g, _, rfl, b3, fun H3 z3 S3 e3 => ?_⟩
      rw [cut_take (by omega)] at e3
      refine ⟨_, rfl, (by show 1 ≤ sizeLine; decide), fun z4 h4 => ?_⟩
      refine ⟨z3, z4, _, _, rfl, rfl, new_same h4 _ _ e3, upd_same, by rw [List.length_take]; show _ + 1 ≤ 1000; omega, fun H5 z5 S5 e5 => ?_⟩
      have S25 := (S3.trans (new_same h4)).trans S5
      refine ⟨_, rfl, x, CC, dx, _, _, rfl, S25 _ _ b1, c.cl, c.nG, cf_guests _ _ _ _ _, _, rfl, _, rfl, g, _, rfl, S25 _ _ b3, fun H6 z6 S6 e6 => ?_⟩
      rw [cut_drop (by omega)] at e6
      refine ⟨z5, z6, _, _, rfl, rfl, S6 _ _ e5, e6, by rw [List.length_append, List.length_take, List.length_drop]; show _ + 1 + _ ≤ 1000; omega, fun H7 gz S7 eg => ?_⟩
      have S27 := (S25.trans S6).trans S7
      have eg7 : H7 gz = some (.tup ((insL is n).map V.int)) := by
        rw [eg]
        unfold insL
        rw [hp, ev, List.map_append, List.map_append, List.map_take, List.map_drop]
        rfl
      clear e3 e5 e6 eg h4 S3 S5 S6 S7 S25
      have S07 := S12.trans S27
      have d1 := S27 _ _ b1
      have d2 := b2.keep S27
      have d3 := S27 _ _ b3
      have d4 := b4.keep S27
      have dra := S27 _ _ bra
      clear b1 b2 b3 b4 bra S12 S27
      -- rows
      refine ⟨_, rfl, x, CC, dx, _, _, rfl, d1, c.cl, c.nR, cf_rows _ _ _ _ _, _, rfl, _, rfl, r, _, rfl, d4.1, fun H8 z8 S8 e8 => ?_⟩
      rw [cut_take (by rw [List.length_map]; omega)] at e8
      refine ⟨z8, _, rfl, .inr (SqT.of e8), fun D hD => ?_⟩
      have D7 : H7 D = none := S8.free hD
      have eD9 : (upd H8 D (.lst ((ps.map V.ref).take pp))) D = some (.lst ((ps.map V.ref).take pp)) := upd_same
      have S79 := S8.trans (new_same (o := .lst ((ps.map V.ref).take pp)) hD)
      have A9 : AtRows D (upd H8 D (.lst ((ps.map V.ref).take pp))) ((ps.map V.ref).take pp) (tss.take pp) := by
        refine ⟨by rw [List.length_take, List.length_take, List.length_map, pl], fun j y ts e1 e2 => ?_⟩
        rw [List.getElem?_take] at e1 e2
        by_cases cj : j < pp
        · rw [if_pos cj] at e1 e2
          rw [List.getElem?_map] at e1
          cases ep : ps[j]? with
          | none => rw [ep] at e1; cases e1
          | some q =>
            rw [ep] at e1
            obtain rfl : V.ref q = y := Option.some.inj e1
            have w7 := (d4.2.2 j q ts ep e2).1
            exact ⟨q, rfl, ne_of_none w7 D7, .inl (S79 _ _ w7)⟩
        · rw [if_neg cj] at e1
          cases e1
      generalize upd H8 D (.lst ((ps.map V.ref).take pp)) = H9 at eD9 S79 A9
      clear e8 S8
      refine ⟨_, rfl, .inl ⟨rfl, _, SqL.of eD9⟩, _, rfl, _, rfl, _, rfl, ra, _, rfl, S79 _ _ dra, fun H10 z10 S10 e10 => ?_⟩
      rw [cut_take (by rw [List.length_map]; omega)] at e10
      have z10D : z10 ≠ D := ne_of e10 (S10 _ _ eD9) (by intro z; cases z)
      refine ⟨D, _, _, rfl, rfl, S10 _ _ eD9, small1000 (by rw [List.length_take]; omega), ?_⟩
      have F11 : ∀ a o, a ≠ D → H7 a = some o → (upd H10 D (.lst ((ps.map V.ref).take pp ++ [.ref z10]))) a = some o := fun a o na ea => by
        rw [upd_ne na]
        exact S10 _ _ (S79 _ _ ea)
      have A11 : AtRows D (upd H10 D (.lst ((ps.map V.ref).take pp ++ [.ref z10]))) ((ps.map V.ref).take pp ++ [.ref z10]) (withK ns us tss pp 0) := by
        have z : withK ns us tss pp 0 = tss.take pp ++ [us.take pp] := by
          unfold withK
          simp
        rw [z]
        have q := (A9.fr (H' := upd H10 D (.lst ((ps.map V.ref).take pp ++ [.ref z10]))) fun a o na ea => by rw [upd_ne na]; exact S10 _ _ ea)
        refine q.snoc ⟨z10, rfl, z10D, .inl ?_⟩
        rw [upd_ne z10D, e10, List.map_take]
      have hn : (((((is.map V.int).length : Nat) : Int) - ((pp : Nat) : Int)).toNat) = tss.length - pp := by rw [il]; omega
      refine ⟨_, rfl, _, rfl, x, CC, dx, _, _, rfl, F11 _ _ (ne_of_none d1 D7) d1, c.cl, c.nG, cf_guests _ _ _ _ _, g, _, rfl, .inr (SqT.of (F11 _ _ (ne_of_none d3 D7) d3)), _, _, rfl, ⟨by omega, by omega, by omega, by omega⟩, for_range (lo := ((pp : Nat) : Int)) (n := ((((is.map V.int).length : Nat) : Int) - ((pp : Nat) : Int)).toNat) (fun i σ H' => ∃ (v6 v7 : Option V) (acc : List V), σ = [some (.ref x), some v, some (.ref ra), some (.int (pp : Nat)), some (.ref gz), some (.ref D), v6, v7] ∧ (∀ a o, a ≠ D → H7 a = some o → H' a = some o) ∧ H' D = some (.lst acc) ∧ AtRows D H' acc (withK ns us tss pp i))
        ⟨none, none, _, rfl, F11, upd_same, A11⟩ ?_ ?_⟩
      · rintro i σ H' hi ⟨v6, v7, acc, rfl, Fr, eD, AR⟩
        rw [hn] at hi
        have hlt : pp + i < ps.length := by omega
        obtain ⟨oa, ep⟩ : ∃ z, ps[pp + i]? = some z := ⟨_, List.getElem?_eq_getElem hlt⟩
        obtain ⟨ot, et⟩ : ∃ z, tss[pp + i]? = some z := ⟨_, List.getElem?_eq_getElem (by omega)⟩
        obtain ⟨u, eu⟩ : ∃ z, us[pp + i]? = some z := ⟨_, List.getElem?_eq_getElem (by omega)⟩
        obtain ⟨w1, wl, _⟩ := d4.2.2 _ _ _ ep et
        have lr : laterR ns us tss pp (pp + i) = ot.take pp ++ [(ns[u.toNat]?).getD 0] ++ ot.drop pp := by
          unfold laterR
          rw [et, eu]
          rfl
        have ub := ur _ (List.mem_of_getElem? eu)
        have f1 := Fr _ _ (ne_of_none d1 D7) d1
        have f2 : TiesAt C H' t ns := by
          obtain ⟨dt, tt, q1, q2⟩ := id d2
          exact ⟨dt, tt, Fr _ _ (ne_of_none q1 D7) q1, Fr _ _ (ne_of_none q2 D7) q2⟩
        have f4 := Fr _ _ (ne_of_none d4.1 D7) d4.1
        have fra := Fr _ _ (ne_of_none dra D7) dra
        have fo := Fr _ _ (ne_of_none w1 D7) w1
        refine ⟨_, rfl, x, CC, dx, _, _, rfl, f1, c.cl, c.nR, cf_rows _ _ _ _ _, _, rfl, _, _, _, _, rfl, rfl, SqT.of f4, at_of (j := pp + i) (v := .ref oa) (by omega) (by rw [List.getElem?_map, ep]; rfl), ?_⟩
        refine ⟨_, rfl, .inl ⟨rfl, _, SqL.of eD⟩, _, rfl, _, rfl, _, rfl, oa, _, rfl, fo, fun Ha za Sa ea => ?_⟩
        rw [cut_take (by rw [List.length_map]; omega)] at ea
        obtain ⟨dt, tt, ht, ht2⟩ := id (f2.keep Sa)
        refine ⟨_, rfl, x, CC, dx, _, _, rfl, Sa _ _ f1, c.cl, c.nT, cf_ties _ _ _ _ _, t, dt, _, rfl, ht, tf_no _ _ (by decide +kernel) (by decide +kernel), _, rfl, _, rfl, ra, _, _, .int u, rfl, rfl, SqT.of (Sa _ _ fra), at_of (j := pp + i) (v := .int u) (by omega) (by rw [List.getElem?_map, eu]; rfl), t, ns, .int u, .sc (.int u), rfl, f2.keep Sa, ⟨rfl, rfl⟩, fun k' b' ek eb => ?_, fun e' => absurd (show tieB ns (.int u) = true from whole_of ub.1 (by omega)) (by rw [e']; exact Bool.false_ne_true)⟩
        have hk : u.toNat = k' := by
          injection ek with ek
          omega
        rw [hk, eb] at lr
        refine ⟨(by show 1 ≤ sizeLine; decide), fun zb hb => ?_⟩
        refine ⟨za, zb, _, _, rfl, rfl, new_same hb _ _ ea, upd_same, by rw [List.length_take, List.length_map]; show _ + 1 ≤ 1000; omega, fun Hc zc Sc ec => ?_⟩
        have Sac := (Sa.trans (new_same hb)).trans Sc
        refine ⟨_, rfl, _, rfl, _, rfl, oa, _, rfl, Sac _ _ fo, fun Hd zd Sd ed => ?_⟩
        rw [cut_drop (by rw [List.length_map]; omega)] at ed
        refine ⟨zc, zd, _, _, rfl, rfl, Sd _ _ ec, ed, by rw [List.length_append, List.length_take, List.length_drop, List.length_map]; show _ + 1 + _ ≤ 1000; omega, fun He ze Se ee => ?_⟩
        have Sae := (Sac.trans Sd).trans Se
        have eDe := Sae _ _ eD
        have zeD : ze ≠ D := ne_of ee eDe (by intro z; cases z)
        have ee' : He ze = some (.tup ((laterR ns us tss pp (pp + i)).map V.int)) := by
          rw [ee, lr, List.map_append, List.map_append, List.map_take, List.map_drop]
          rfl
        refine ⟨D, _, _, rfl, rfl, eDe, small1000 (by rw [AR.1, withK_len (by omega)]; omega), _, _, _, rfl, fun a o na e' => by rw [upd_ne na]; exact Sae _ _ (Fr _ _ na e'), upd_same, ?_⟩
        rw [withK_succ]
        refine (AR.fr (fun a o na e' => by rw [upd_ne na]; exact Sae _ _ e')).snoc ⟨ze, rfl, zeD, .inl ?_⟩
        rw [upd_ne zeD]
        exact ee'
      · rintro σ H' ⟨v6, v7, acc, rfl, Fr, eD, AR⟩
        rw [hn] at AR
        have S7' : Same H7 H' := fun a o e' => Fr a o (ne_of_none e' D7) e'
        obtain ⟨ss, sa, sr'⟩ := AR.shapes
        obtain ⟨nn, enn, n0, n1⟩ := whole_int ew
        obtain rfl : n = nn := by rw [ev] at enn; injection enn
        have sno := seat_no (by rw [← ev]; exact es)
        refine ⟨_, rfl, x, CC, dx, _, _, rfl, S7' _ _ d1, c.cl, c.nT, cf_ties _ _ _ _ _, _, rfl, _, rfl, mk_comp (sg := .tup ((insL is n).map V.int)) (sr := .lst acc) (ss := ss) (tss := withR ns us tss pp) (d2.keep S7') ⟨gz, rfl, S7' _ _ eg7⟩ ⟨D, rfl, eD⟩ sa rfl rfl rfl sr' ?_ ?_ (insL_asc a8 sno) ?_ (withR_rows gb R (by omega) (by omega) ur) fun H10 z S10 nz cC => ⟨rfl, ?_⟩⟩
        · unfold withR
          rw [withK_len (by omega), insL_len]
          omega
        · rw [insL_len]
          omega
        · intro y hy
          rcases insL_mem hy with rfl | hy
          · exact ⟨n0, n1⟩
          · exact a11 y hy
        · exact k6 e us rfl H10 z ((S07.trans S7').trans S10) cC
end
end J

set_option Elab.async false
set_option linter.all false
set_option maxRecDepth 100000
set_option maxHeartbeats 8000000
namespace J
open PySem PySem.Spec PyProof.Rows L2
/-! ### a company of some guests, newly labelled -/
def cellI (ns : List Int) (tss : List (List Int)) (a b : Nat) : Int := if b < a then ((tss[a]?.getD [])[b]?).getD 0 else ns[(((tss[b]?.getD [])[a]?).getD 0).toNat]?.getD 0
theorem cell_int {ns : List Int} {tss : List (List Int)} {a b : Nat} (g : GoodB ns) (R : Rows ns.length tss) (ha : a < tss.length) (hb : b < tss.length) (ne : a ≠ b) : cell ns tss a b = .int (cellI ns tss a b) ∧ 0 ≤ cellI ns tss a b ∧ cellI ns tss a b < (ns.length : Nat) := by
  unfold cell cellI
  rcases Nat.lt_or_ge b a with c | c
  · rw [if_pos c, if_pos c]
    have e := List.getElem?_eq_getElem ha
    obtain ⟨r1, r2⟩ := R a _ e
    rw [e]
    have e2 := List.getElem?_eq_getElem (l := tss[a]) (i := b) (by omega)
    show (match tss[a][b]? with | some t => V.int t | none => .non) = _ ∧ _
    show _ = V.int ((tss[a][b]?).getD 0) ∧ 0 ≤ (tss[a][b]?).getD 0 ∧ (tss[a][b]?).getD 0 < _
    rw [e2]
    exact ⟨rfl, r2 _ (List.getElem_mem _)⟩
  · have c' : a < b := by omega
    rw [if_neg (by omega), if_pos c', if_neg (by omega)]
    have e := List.getElem?_eq_getElem hb
    obtain ⟨r1, r2⟩ := R b _ e
    rw [e]
    have e2 := List.getElem?_eq_getElem (l := tss[b]) (i := a) (by omega)
    show (match tss[b][a]? with | some t => V.int (ns[t.toNat]?.getD 0) | none => .non) = _ ∧ _
    show _ = V.int (ns[((tss[b][a]?).getD 0).toNat]?.getD 0) ∧ 0 ≤ ns[((tss[b][a]?).getD 0).toNat]?.getD 0 ∧ ns[((tss[b][a]?).getD 0).toNat]?.getD 0 < _
    rw [e2]
    refine ⟨rfl, ?_⟩
    show 0 ≤ ns[(tss[b][a]).toNat]?.getD 0 ∧ ns[(tss[b][a]).toNat]?.getD 0 < _
    obtain ⟨q1, q2⟩ := r2 _ (List.getElem_mem (l := tss[b]) (n := a) (by omega))
    have e3 := List.getElem?_eq_getElem (l := ns) (i := (tss[b][a]).toNat) (by omega)
    rw [e3]
    exact g.rng _ (List.getElem_mem _)
def rowT (ns : List Int) (tss : List (List Int)) (js : List Nat) (a : Nat) : List Int := (List.range a).map fun b => cellI ns tss ((js[a]?).getD 0) ((js[b]?).getD 0)
def subT (ns : List Int) (tss : List (List Int)) (js : List Nat) (k : Nat) : List (List Int) := (List.range k).map (rowT ns tss js)
theorem nodup_ne {js : List Nat} (nd : js.Nodup) {a b x y : Nat} (h : a ≠ b) (ea : js[a]? = some x) (eb : js[b]? = some y) : x ≠ y := fun e => by
  have la := (List.getElem?_eq_some_iff.mp ea).1
  have q : js[a]? = js[b]? := by rw [ea, eb, e]
  exact h ((List.getElem?_inj la nd).mp q)
theorem subT_rows {ns : List Int} {tss : List (List Int)} {js : List Nat} (g : GoodB ns) (R : Rows ns.length tss) (hj : ∀ j ∈ js, j < tss.length) (nd : js.Nodup) : Rows ns.length (subT ns tss js js.length) := by
  intro a ts e
  unfold subT at e
  rw [List.getElem?_map] at e
  have ha : a < js.length := by
    cases q : (List.range js.length)[a]? with
    | none => rw [q] at e; cases e
    | some z =>
      have := (List.getElem?_eq_some_iff.mp q).1
      rwa [List.length_range] at this
  rw [List.getElem?_range ha] at e
  obtain rfl : rowT ns tss js a = ts := Option.some.inj e
  unfold rowT
  refine ⟨by rw [List.length_map, List.length_range], fun t ht => ?_⟩
  obtain ⟨b, hb, rfl⟩ := List.mem_map.mp ht
  rw [List.mem_range] at hb
  have ea := List.getElem?_eq_getElem ha
  have eb := List.getElem?_eq_getElem (l := js) (i := b) (by omega)
  rw [ea, eb]
  exact (cell_int g R (hj _ (List.mem_of_getElem? ea)) (hj _ (List.mem_of_getElem? eb)) (nodup_ne nd (by omega) ea eb)).2
abbrev s_Company__seated : Stmt := inClass (top 17) 12
theorem sc_Company__seated : FnScope ["self", "labels", "places", "rows", "ahead", "j", "i"] ["self", "labels", "places"] (defScope s_Company__seated) := ⟨rfl, rfl, rfl, by decide +kernel, rfl, by decide +kernel, by decide +kernel⟩
def spSeated (C CC : Addr) : Sp := fun vs H Q _ => ∃ (x la pa : Addr) (ns is ls : List Int) (tss : List (List Int)) (js : List Nat), vs = [.ref x, .ref la, .ref pa] ∧ CompAt C CC H x ns is tss ∧ GoodB ns ∧ H la = some (.lst (ls.map V.int)) ∧ H pa = some (.lst (js.map fun j : Nat => V.int (j : Nat))) ∧ ls.length = js.length ∧ js.length ≤ 60 ∧
  Asc ls ∧ (∀ n ∈ ls, 0 ≤ n ∧ n ≤ 1000000000) ∧ (∀ j ∈ js, j < is.length) ∧ js.Nodup ∧ ∀ (H' : Hp) (z : Addr), Same H H' → CompAt C CC H' z ns ls (subT ns tss js js.length) → Q (.ref z) H'
section
variable {P : Program} {w : World} {K : PySem.W.Frag} {mg : Str → Option Value} {base : Heap}
theorem ok_Company_seated {f C CC CB fJ : Addr} {fd fdJ : FuncData} (F : Fun K "_seated" "Company._seated" s_Company__seated f fd) (c : CoC K CC) (ne : mg "enumerate" = none)
    (mC : mg "Company" = some (.ref CC)) (MJ : Mk K CC fJ) (FJ : FnOk P w K mg base (L2.CX P w) 5 fJ fdJ ["self", "ties", "guests", "rows"] (spCompI C CC CB)) (bJ : Binds K fdJ ["self", "ties", "guests", "rows"] []) :
    FnOk P w K mg base CX0 7 f fd ["self", "labels", "places"] (spSeated C CC) := by
  refine F.ok sc_Company__seated (fun vs H Q E h => ?_) (fun cdv A outer s H vs Q E hr h => ?_)
  · obtain ⟨x, la, pa, ns, is, ls, tss, js, rfl, _⟩ := h
    rfl
  · obtain ⟨x, la, pa, ns, is, ls, tss, js, rfl, hC, gb, ela, epa, lj, j60, asc, labs, jr, nd, k⟩ := h
    obtain ⟨dx, t, g, r, b, p, ps, kvs, a1, a2, a3, a4, a5, a6, a7, a8, a9, a10, a11⟩ := id hC
    refine ⟨_, (pss_cons 
  (ps_setLc (i := 3) (own := [("ahead", 4), ("j", 5)]) (g := gTup K 2 (gCons (gName 4) (gCons (gName 5) gNil))) rfl sc_Company__seated.nd rfl rfl (sw_true rfl rfl rfl (by decide +kernel)) (pi_enum (by rfl) ne (pa_cons (pv 2) pa_nil)) (blkOk_by (own := [("ahead", 4), ("j", 5)]) (N := ["self", "labels", "places", "rows", "ahead", "j", "i"]) (sc := defScope s_Company__seated) (by decide +kernel)) (fun _ _ _ _ _ => pg_tup (by rfl) (pgs_cons (pg_name (i := 4) sc_Company__seated.nd rfl (Or.inl rfl)) (pgs_cons (pg_name (i := 5) sc_Company__seated.nd rfl (Or.inr rfl)) pgs_nil))) (fun _ _ _ _ _ => pts_nil) (fun _ _ _ _ _ =>
    (pe_lc (wi := iList K (tSl (rSlL K) (tVar 2) tNoPart (tPart (tVar 4)))) (own := [("i", 6)]) (g := gName 6) (by rfl) sc_Company__seated.nd (pi_list (pe_slice (r := rSlL K) sl_list (pv 2) po_none (po_some (pv 4)))) (blkOk_by (own := [("i", 6)]) (N := ["self", "labels", "places", "rows", "ahead", "j", "i"]) (by rfl)) (fun _ _ _ _ _ => pg_name (i := 6) sc_Company__seated.nd rfl (Or.inl rfl)) (fun _ _ _ _ _ => pts_nil) (fun _ _ _ _ _ => (pe_ix (r := rIxT K) ix_tup (pe_ix (r := rIxT K) ix_tup (show PE _ _ (tFld K (tVar 0) "table") from pe_fld (pv 0) rfl) (pv 5) (fun _ _ => rfl)) (pv 6) (fun _ _ => rfl)))))) (pss_one 
  (ps_ret (pe_make MJ FJ hr rfl mC bJ .nil passL (pa_cons (pe_fld (pv 0) rfl) (pa_cons (pv 1) (pa_cons (pv 3) pa_nil))))))), ?_⟩
    refine ⟨_, rfl, pa, _, rfl, SqL.of epa, fun D hD => ?_⟩
    have R : Rows ns.length tss := fun j ts et => by
      have hj := (List.getElem?_eq_some_iff.mp et).1
      have ep := List.getElem?_eq_getElem (l := ps) (i := j) (by have := a4.2.1; omega)
      exact (a4.2.2 j _ ts ep et).2
    obtain ⟨us, u1, u2, u3⟩ := id a5
    have jl : (js.map fun j : Nat => V.int (j : Nat)).length = js.length := List.length_map _
    refine lc_it (walk_enum (K := K) (a := pa) (xs := js.map fun j : Nat => V.int (j : Nat))) (fun n H' => Same H H' ∧ ∃ ws : List Addr, H' D = some (.lst (ws.map V.ref)) ∧ ws.length = n ∧ ∀ (m : Nat) (u : Addr), ws[m]? = some u → u ≠ D ∧ H' u = some (.lst ((rowT ns tss js m).map V.int)))
      ⟨new_same hD, [], upd_same, rfl, fun m u e => by simp at e⟩ (fun n H' _ ⟨S, _⟩ => SqL.of (S _ _ epa)) ?_ ?_
    · rintro n v H1 H2 hn ⟨S1, ws, eD, wl, hw⟩ ⟨T, x1, y1, rfl, hT, rfl, e1, e2⟩
      rw [jl] at hn
      obtain rfl : V.int (n : Nat) = x1 := Option.some.inj e1
      have ej := List.getElem?_eq_getElem hn
      have e2 : (js.map fun j : Nat => V.int (j : Nat))[n]? = some y1 := e2
      rw [List.getElem?_map, ej] at e2
      obtain rfl : V.int (js[n] : Nat) = y1 := Option.some.inj e2
      have jb := jr _ (List.mem_of_getElem? ej)
      have jn : (js[n]?).getD 0 = js[n] := by rw [ej]; rfl
      generalize js[n] = jn' at ej jb jn
      have S2 := S1.trans (new_same (o := .tup [.int (n : Nat), .int (jn' : Nat)]) hT)
      have eD2 := new_same (o := .tup [.int (n : Nat), .int (jn' : Nat)]) hT _ _ eD
      refine ⟨T, _, rfl, SqT.of upd_same, rfl, _, _, rfl, _, _, rfl, rfl, rfl, yesT ?_⟩
      have hw2 : ∀ (m : Nat) (u : Addr), ws[m]? = some u → u ≠ D ∧ (upd H1 T (.tup [.int (n : Nat), .int (jn' : Nat)])) u = some (.lst ((rowT ns tss js m).map V.int)) := fun m u e => ⟨(hw m u e).1, new_same (o := .tup [.int (n : Nat), .int (jn' : Nat)]) hT _ _ (hw m u e).2⟩
      generalize upd H1 T (.tup [.int (n : Nat), .int (jn' : Nat)]) = H2 at S2 eD2 hw2
      refine ⟨_, rfl, _, rfl, _, rfl, pa, _, rfl, SqL.of (S2 _ _ epa), fun q hq => ?_⟩
      rw [cut_take (by rw [jl]; omega)]
      have S3 := new_same (o := .lst ((js.map fun j : Nat => V.int (j : Nat)).take n)) hq
      have eq3 : (upd H2 q (.lst ((js.map fun j : Nat => V.int (j : Nat)).take n))) q = some (.lst ((js.map fun j : Nat => V.int (j : Nat)).take n)) := upd_same
      generalize upd H2 q (.lst ((js.map fun j : Nat => V.int (j : Nat)).take n)) = H3 at S3 eq3
      refine ⟨q, rfl, ⟨_, SqL.of eq3⟩, fun D2 hD2 => ?_⟩
      refine lc_list (K := K) (a := q) (xs := (js.map fun j : Nat => V.int (j : Nat)).take n) (fun m H4 => Same H3 H4 ∧ H3 D2 = none ∧ H4 D2 = some (.lst (((List.range m).map fun b => cellI ns tss jn' ((js[b]?).getD 0)).map V.int))) ⟨new_same hD2, hD2, upd_same⟩ (fun m H4 _ ⟨S, _⟩ => SqL.of (S _ _ eq3)) ?_ ?_
      · rintro m y H4 hy ⟨S4, D0, e4⟩
        have hm : m < n := by
          have := (List.getElem?_eq_some_iff.mp hy).1
          rw [List.length_take, jl] at this
          omega
        rw [List.getElem?_take_of_lt hm, List.getElem?_map] at hy
        have em := List.getElem?_eq_getElem (l := js) (i := m) (by omega)
        rw [em] at hy
        obtain rfl : V.int (js[m]'(by omega) : Nat) = y := Option.some.inj hy
        have mb := jr _ (List.mem_of_getElem? em)
        have mm : (js[m]?).getD 0 = js[m]'(by omega) := by rw [em]; rfl
        generalize js[m]'(by omega) = jm at em mb mm
        have ne' := nodup_ne nd (show n ≠ m by omega) ej em
        obtain ⟨ci, _, _⟩ := cell_int gb R (show jn' < tss.length by omega) (show jm < tss.length by omega) ne'
        have S5 := ((S2.trans S3).trans S4)
        have eu := List.getElem?_eq_getElem (l := us) (i := jn') (by omega)
        generalize us[jn']'(by omega) = uj at eu
        obtain ⟨xs, x1, x2, x3⟩ := u3 jn' uj eu
        refine ⟨rfl, yesT ?_⟩
        refine ⟨_, rfl, x, CC, dx, _, _, rfl, S5 _ _ a1, c.cl, c.nB, cf_table _ _ _ _ _, _, rfl, _, _, _, _, rfl, rfl, SqT.of (S5 _ _ u1), at_of (j := jn') (v := .ref uj) rfl (by rw [List.getElem?_map, eu]; rfl), _, rfl, _, _, _, _, rfl, rfl, SqT.of (S5 _ _ x1), at_of (j := jm) (v := .int (cellI ns tss jn' jm)) rfl (by rw [x3 jm (by omega), ci]), _, e4, small1000 (by rw [List.length_map, List.length_map, List.length_range]; omega), fun a o e => ?_, D0, ?_⟩
        · rw [upd_ne (ne_of_none e D0)]
          exact S4 _ _ e
        · rw [upd_same, List.range_succ, List.map_append, List.map_append]
          show some (HO.lst (_ ++ [V.int (cellI ns tss jn' jm)])) = some (HO.lst (_ ++ [V.int (cellI ns tss jn' ((js[m]?).getD 0))]))
          rw [mm]
      · rintro H4 ⟨S4, D0, e4⟩
        rw [List.length_take, jl, Nat.min_eq_left (by omega)] at e4
        have S24 := S3.trans S4
        have n2D : D2 ≠ D := (ne_of_none (S3 _ _ eD2) D0).symm
        refine ⟨_, S24 _ _ eD2, small1000 (by rw [List.length_map]; omega), fun a o e => ?_, ws ++ [D2], by rw [upd_same, List.map_append]; rfl, by rw [List.length_append, wl]; rfl, fun m u e => ?_⟩
        · rw [upd_ne (ne_of_none e hD)]
          exact (S2.trans S24) _ _ e
        · rcases Nat.lt_or_ge m ws.length with hm | hm
          · rw [List.getElem?_append_left hm] at e
            obtain ⟨z1, z2⟩ := hw2 m u e
            exact ⟨z1, by rw [upd_ne z1]; exact S24 _ _ z2⟩
          · have hmn : m = ws.length := by
              have := (List.getElem?_eq_some_iff.mp e).1
              rw [List.length_append] at this
              have l : [D2].length = 1 := rfl
              omega
            subst hmn
            rw [List.getElem?_append_right (Nat.le_refl _), Nat.sub_self] at e
            obtain rfl : D2 = u := Option.some.inj e
            refine ⟨n2D, ?_⟩
            rw [upd_ne n2D, e4, wl]
            unfold rowT
            rw [jn]
    · rintro H1 ⟨S1, ws, eD, wl, hw⟩
      rw [jl] at wl
      have sl : (subT ns tss js js.length).length = js.length := by
        unfold subT
        rw [List.length_map, List.length_range]
      have gets : ∀ (m : Nat) (ts : List Int), (subT ns tss js js.length)[m]? = some ts → ts = rowT ns tss js m := fun m ts e => by
        unfold subT at e
        rw [List.getElem?_map] at e
        cases q : (List.range js.length)[m]? with
        | none => rw [q] at e; cases e
        | some z =>
          rw [q] at e
          have hz := (List.getElem?_eq_some_iff.mp q)
          obtain ⟨h1, h2⟩ := hz
          rw [List.getElem_range] at h2
          rw [← h2] at e
          exact (Option.some.inj e).symm
      refine ⟨_, rfl, x, CC, dx, _, _, rfl, S1 _ _ a1, c.cl, c.nT, cf_ties _ _ _ _ _, _, rfl, _, rfl, mk_comp (sg := .lst (ls.map V.int)) (sr := .lst (ws.map V.ref)) (ss := shL (subT ns tss js js.length)) (tss := subT ns tss js js.length) (a2.keep S1) ⟨la, rfl, S1 _ _ ela⟩ ⟨D, rfl, eD⟩ (shL_all (by omega) fun m a ts q1 q2 => ?_) rfl rfl rfl (shL_rows _) (by omega) (by omega) asc labs (subT_rows gb R (fun j hj => by have := jr j hj; omega) nd) fun H10 z S10 nz cC => ⟨rfl, k H10 z (S1.trans S10) cC⟩⟩
      rw [gets m ts q2]
      exact (hw m a q1).2
end
end J

set_option Elab.async false
set_option linter.all false
set_option maxRecDepth 100000
set_option maxHeartbeats 4000000
/-! ### a set of ints by a comprehension whose element may raise -/
namespace L2
open PySem PySem.Spec PyProof.Rows
/-- what a call in the block Y of X lets out -/
def Outs (X Y : Cx) (E : XK) : Value → Shared → Prop := fun u t => ∃ (ps : List (Addr × Obj)) (τ : St) (G : Hp) (s1 : Shared), Inv Y ps τ G s1 ∧ CX X.prog X.w X.stack G s1 E u t
/-- from the sky into the frame's hand -/
theorem sky_held {M : Model} {A : Around} {E₁ : Value → Shared → Prop} {env : Env} {outer : List Env} {L a : Addr} {Z : Obj → Prop} {B : Heap} {t : Shared} {Q : Unit → Shared → Prop} (hZ : HandSPX.Steady Z) (fr : A.frames = some (env :: outer)) (fL : env.frame = some L)
    (x : Sky B (env :: outer) a Z L t.heap) (k : ∀ h1, HandSPX.HeldZ B (env :: outer) a Z L h1 → t.heap.UpToSlots h1 → Q () { t with heap := h1 }) : wpAny M A (noteFrame (.ref a) env) Q E₁ t := by
  rcases x with ⟨q1, q2, q3, oe, vs, q4, q5, q6, q7⟩ | x | x
  · exact HandSPX.look_newZ hZ fr q3 fL q4 q1 q2 q6 q7 q5 k
  · exact HandSPX.looks_onZ hZ fr fL x k
  · exact HandSPX.againZ fL x.2.2.2 (k t.heap x (Heap.UpToSlots.refl _))
theorem data_ne {h : Heap} {b c : Addr} {o : Obj} {vs : Array Value} {m : Str → Option Value} (e : h.get? b = some o) (d : o.data = .fields vs) (n : h.Ns c m) : b ≠ c := fun q => by
  obtain ⟨o', es, ep, e', d', _⟩ := n
  rw [q, e'] at e
  cases e
  rw [d] at d'
  cases d'
section
variable {X : Cx} {pins : List (Addr × Obj)} {σ : St} {H3 : Hp} {s3 : Shared} {fp : List Addr} {sc : Scope} {ce : Env} {W : WX} {E : XK}
/-- an exception of a call in the block leaves the comprehension -/
theorem outs_noted (hs : X.stack = X.env :: X.outer) (fL : X.env.frame = some X.env.locals) (tk : Takes X W) (hW : ∀ cls d τ G, E cls d G → W cls d τ G) (I3 : Inv X pins σ H3 s3) (f3 : ∀ b ∈ fp, FpOk X pins H3 b)
    (ce_f : ce.frame = X.env.frame) (ce_l : ce.locals = s3.heap.objs.size) {u : Value} {t : Shared} (o : Outs X (X.blk s3 H3 sc ce fp) E u t) :
    notedBy (model X.prog X.w) X.A ce (CompFails (model X.prog X.w) X.A X.xe ce) u t := by
  obtain ⟨ps, τ, G, s1, J, c⟩ := o
  have I1 : Inv X pins σ G s1 := I3.call' (ch := fp) J.os J.base J.hok J.bare fun b hb => by
    obtain ⟨_, w1, _, w2, w3, w4⟩ := f3 b hb
    exact ⟨w2, w1, w3, w4⟩
  obtain ⟨m, hn, _⟩ := J.loc
  have hn : s1.heap.Ns ce.locals m := hn
  have nC : G ce.locals = none := J.free
  have nfr : ce.locals ∉ frs X.stack := fun z => by
    obtain ⟨_, o', e', _⟩ := I3.stack.mem z
    have := Heap.lt_size e'
    rw [ce_l] at this
    exact Nat.lt_irrefl _ this
  obtain ⟨oC, es, ep, eC, dC, rC⟩ := id hn
  have both : t.heap.get? ce.locals = some oC ∧ CX X.prog X.w X.stack G s1 (fun cls d K => E cls d K ∧ K ce.locals = none) u t := by
    obtain ⟨a, B, K, cls, d, r, fl, hok, ub, na, os, ag, hE⟩ := c
    exact ⟨fl.1 _ _ (ub.keep _ _ eC nC nfr), a, B, K, cls, d, r, fl, hok, ub, na, os, ag, hE, ub.free _ _ eC nC⟩
  obtain ⟨tC, c2⟩ := both
  have tn : t.heap.Ns ce.locals m := ⟨oC, es, ep, tC, dC, rC⟩
  obtain ⟨a, B, sI, ps', τ', K, cls, d, rfl, I2, nb, up, sky, na, os, ag, w, nK⟩ := XE.of_call (W := fun cls d τ K => W cls d τ K ∧ K ce.locals = none) I1 (fun cls d K h => ⟨hW _ _ _ _ h.1, h.2⟩) c2
  show wpAny _ _ (noteFrame (.ref a) ce) _ _ t
  rw [noteFrame_env _ ce_f]
  have fr : X.A.frames = some (X.env :: X.outer) := by rw [I2.ok.frames, hs]
  rw [hs] at sky
  refine sky_held Zc.steady fr fL sky fun h1 held up1 => ?_
  have n1 : h1.Ns ce.locals m := tn.upToSlots up1
  refine ⟨m, n1, fun h2 m2 n2 sb => ?_⟩
  obtain ⟨b1, b2, b3, oe, vs, T, oT, ts, e1, z1, d1, v1, nT, Te, e2, d2, v2⟩ := held
  have aC := data_ne e1 d1 n1
  have TC := data_ne e2 d2 n1
  have keep : ∀ b o, b ≠ ce.locals → h1.get? b = some o → h2.get? b = some o := fun b o hb e => (sb.2 b hb).trans e
  have hid : ∀ {g : Heap} {b : Addr} {o : Obj}, (PySem.W.hideAll g [ce.locals]).get? b = some o → b ≠ ce.locals ∧ g.get? b = some o := by
    intro g b o e
    refine ⟨fun q => ?_, PySem.W.of_hideAll _ e⟩
    rw [PySem.W.hideAll_none _ (by rw [q]; exact List.mem_cons_self)] at e
    cases e
  have sho : ∀ {g : Heap} {b : Addr} {o : Obj}, b ≠ ce.locals → g.get? b = some o → (PySem.W.hideAll g [ce.locals]).get? b = some o := fun {g b o} hb e => PySem.W.hideAll_get _ e (by simpa using hb)
  have non : ∀ {b : Addr}, B.get? b = none → (PySem.W.hideAll B [ce.locals]).get? b = none := fun {b} e => by
    cases q : (PySem.W.hideAll B [ce.locals]).get? b with
    | none => rfl
    | some o =>
      rw [(hid q).2] at e
      cases e
  have held2 : HandSPX.HeldZ (PySem.W.hideAll B [ce.locals]) (X.env :: X.outer) a (Zc cls d) X.env.locals h2 := by
    refine ⟨fun b o e => keep b o (hid e).1 (b1 b o (hid e).2), non b2, funFrames_none (Heap.FunFrames.sameBut sb n2 b3) fun L hL => non (b3.mem hL).1, oe, vs, T, oT, ts, keep _ _ aC e1, z1, d1, v1, non nT, Te, keep _ _ TC e2, d2, v2⟩
  unfold PySem.passOn
  refine wpAny_bind (wpAny_field (keep _ _ aC e1) d1 v1 ?_)
  rw [if_neg (show ¬ ((Value.ref T == Value.none) = true) from by simp), ce_f, fL]
  refine wpAny_bind (HandSPX.setFlight_onZ held2 fun h4 held4 up4 => wpAny_throw ?_)
  have fC : FpOk X [] K ce.locals := by
    obtain ⟨w0, w1, w2, w3, w4, w5⟩ := I3.fpOk (H' := K) (b := ce.locals) (by rw [ce_l]; exact Nat.le_refl _) nK
    exact ⟨w0, w1, w2, w3, w4, fun p hp => w5 p (by rw [List.append_nil] at hp; exact List.mem_append_left _ hp)⟩
  have I4 : Inv X [] τ' K { sI with heap := PySem.W.hideAll sI.heap [ce.locals], toks := sI.toks } := by
    obtain ⟨w0, w1, w2, w3, w4, w5⟩ := fC
    exact (Inv.unpinned (pins := []) I2).turned (fun b o hb e => sho hb e) w0 w1 w3 w4 w5
  refine tk _ _ ⟨a, PySem.W.hideAll B [ce.locals], _, [], τ', K, cls, d, rfl, I4, fun b o e hb => sho (hid e).1 (nb b o (hid e).2 hb), fun b o e nf => ?_, ?_, na, os, ag, w⟩
  · obtain ⟨q1, q2⟩ := hid e
    obtain ⟨sl1, r1⟩ := up b o q2 nf
    obtain ⟨sl2, r2⟩ := up1 b _ r1 nf
    obtain ⟨sl3, r3⟩ := up4 b _ (keep b _ q1 r2) nf
    exact ⟨sl3, r3⟩
  · rw [hs]
    exact .inr (.inr held4)
end
section
variable {X : Cx}
/-- {elt for target in iter if ..}, elt an int: D the new set -/
def tSx (w : World) (wi : TI) (g : TG) (tt : TT) (te : TE) (vs : List Nat) : TE := fun τ G Q => wi τ G fun J G1 => ∀ D, G1 D = none → ∃ V : Nat → Nat → Hp → Prop, (∃ m, V 0 m (upd G1 D (SetO w D (fun _ => false) 0))) ∧
  ∀ i m G, V i m G → (J.stop i G ∧ Q (.ref D) G) ∨
    (J.go i G ∧ ∃ Nx : Hp → Prop, (∀ G', Nx G' → ∃ m', m' < m ∧ V (i + 1) m' G') ∧ ∀ x G', J.yld i G x G' → g x (wipe τ vs) G' fun τ2 G2 => wipe τ2 vs = wipe τ vs ∧ tt τ2 G2 fun b G3 =>
      if b = true then te τ2 G3 fun y G4 => ∃ (k : Int) (S : Int → Bool) (n : Nat), y = .int k ∧ G4 D = some (SetO w D S n) ∧ n + 1 < scanBound ∧ Nx (upd G4 D (SetO w D (fun j => S j || decide (j = k)) (if S k = true then n else n + 1)))
      else Nx G3)
theorem pe_sx {W : WX} {E : XK} {elt tg iter : Expr} {ifs : List Expr} {scope : Scope} {own : List (PySem.Str × Nat)} {pos : Pos} {wi : TI} {g : TG} {tt : TT} {te : TE} (hs : X.stack = X.env :: X.outer) (fL : X.env.frame = some X.env.locals) (tk : Takes X W) (hW : ∀ cls d τ G, E cls d G → W cls d τ G)
    (calm : X.calm = true) (nd : X.N.Nodup) (hi : PI X tg iter wi) (ok : BlkOk X.N X.env.scope scope own)
    (hg : ∀ (s : Shared) (G : Hp) (C : Addr) (cl : List (PySem.Str × Addr)) (fp : List Addr), PG (X.blk s G scope (compEnvC scope cl C X.env) fp) tg g)
    (ht : ∀ (s : Shared) (G : Hp) (C : Addr) (cl : List (PySem.Str × Addr)) (fp : List Addr), PTs (X.blk s G scope (compEnvC scope cl C X.env) fp) ifs tt)
    (he : ∀ (s : Shared) (G : Hp) (C : Addr) (cl : List (PySem.Str × Addr)) (fp : List Addr), PE ((X.blk s G scope (compEnvC scope cl C X.env) fp).wish (Outs X (X.blk s G scope (compEnvC scope cl C X.env) fp) E)) elt te)
    (hf : ∀ x, foldedSetIterable iter X.env x = pure x := by intro _; rfl) : PE X (.SetComp elt [⟨tg, iter, ifs, 0⟩] scope pos) (tSx X.w wi g tt te (own.map (·.2))) := by
  refine ⟨fun pins s σ G Q I h => ?_⟩
  rw [PpSet.eval_SetComp]
  have frees : ∀ y ∈ scope.names, y.2 = .free → ∃ c, X.env.cells.lookup y.1 = some c := fun y hy e => I.ok.has _ (ok.free y hy e)
  refine comprehension_at (use := none) rfl hf (closure_ok frees) ok.kind (fun y hy e => by rw [ok.uniq y hy, e])
    (thn (hi.run pins s σ G _ I h) fun xv s1 hx => thn hx fun itv s2 h2 => ?_)
  obtain ⟨it, fp, tn, J, G2, e, I2, T, st2, f2, q⟩ := h2
  subst e
  refine PpSet.newSet_ok (newEnv_comp ?_)
  generalize hD : s2.heap.objs.size = D
  have freeD : G2 D = none := I2.hok.fresh (Nat.le_of_eq hD)
  obtain ⟨V, ⟨m0, v0⟩, turn⟩ := q D freeD
  generalize hs3 : ({ s2 with heap := s2.heap.push { cls := .type "set", dict := none, data := .set #[] 0 (.fresh 0 0 (!X.w.params.followText "set-order")) } } : Shared) = s3
  have push3 : ∀ b o, s2.heap.get? b = some o → s3.heap.get? b = some o := fun b o e => by
    rw [← hs3]
    exact Heap.get?_push_of_some _ e
  have size3 : s3.heap.objs.size = s2.heap.objs.size + 1 := by
    rw [← hs3]
    exact Heap.size_push ..
  have I3 : Inv X pins σ (upd G2 D (SetO X.w D (fun _ => false) 0)) s3 := by
    rw [← hs3]
    refine I2.laid (t' := s2.toks) (fun b o e => Heap.get?_push_of_some _ e) (Nat.le_of_eq hD) ?_
    rw [← hD]
    exact setO_new (setR_fresh X.w)
  have small : ∀ b ∈ fp, b < s2.heap.objs.size := fun b hb => by
    obtain ⟨o, e, _⟩ := T.obj _ _ st2 b hb
    exact Heap.lt_size e
  have f3 : ∀ b ∈ fp, FpOk X pins (upd G2 D (SetO X.w D (fun _ => false) 0)) b ∧ b < s3.heap.objs.size := fun b hb => by
    have lt := small b hb
    obtain ⟨w0, w1⟩ := f2 b hb
    refine ⟨⟨?_, w1⟩, by rw [size3]; exact Nat.lt_succ_of_lt lt⟩
    rw [upd_ne (by rw [← hD]; exact Nat.ne_of_lt lt)]
    exact w0
  have st3 : tn 0 s3.heap := T.keep _ _ _ st2 fun b _ o e => push3 b o e
  have I4 := block_start I3 ok nd f3
  have pg := hg s3 (upd G2 D (SetO X.w D (fun _ => false) 0)) s3.heap.objs.size (cellsFrom (s3.heap.objs.size + 1) scope.names (cloFrom X.env.cells scope.names [])) fp
  have pt := ht s3 (upd G2 D (SetO X.w D (fun _ => false) 0)) s3.heap.objs.size (cellsFrom (s3.heap.objs.size + 1) scope.names (cloFrom X.env.cells scope.names [])) fp
  have pe := he s3 (upd G2 D (SetO X.w D (fun _ => false) 0)) s3.heap.objs.size (cellsFrom (s3.heap.objs.size + 1) scope.names (cloFrom X.env.cells scope.names [])) fp
  generalize hce : compEnvC scope (cellsFrom (s3.heap.objs.size + 1) scope.names (cloFrom X.env.cells scope.names [])) s3.heap.objs.size X.env = ce at I4 pg pt pe
  have cL : ce.locals = s3.heap.objs.size := by rw [← hce]; rfl
  have cF : ce.frame = X.env.frame := by rw [← hce]; rfl
  show codeAny (model X.prog X.w) X.A (.compStart (.SetComp elt [⟨tg, iter, ifs, 0⟩] scope pos) 0 (.ref it) (.ref D) (compEnvC scope (cellsFrom (s3.heap.objs.size + 1) scope.names (cloFrom X.env.cells scope.names [])) s3.heap.objs.size X.env)) (compEnds (model X.prog X.w) X.A X.xe none _ (.ref D) (compEnvC scope (cellsFrom (s3.heap.objs.size + 1) scope.names (cloFrom X.env.cells scope.names [])) s3.heap.objs.size X.env)) _
  rw [hce]
  have nofp : ∀ b ∈ fp, (upd G2 D (SetO X.w D (fun _ => false) 0)) b = none := fun b hb => (f3 b hb).1.1
  generalize hH3 : upd G2 D (SetO X.w D (fun _ => false) 0) = H3 at I3 I4 pg pt pe v0 nofp f3
  generalize hs4 : ({ s3 with heap := pushCells (s3.heap.push { cls := .type "dict", data := .dict #[] }) scope.names } : Shared) = s4 at I4 ⊢
  have st4 : tn 0 s4.heap := T.keep _ _ _ st3 fun b _ o e => by
    rw [← hs4]
    exact pushCells_keeps _ _ _ _ (Heap.get?_push_of_some _ e)
  have still : ∀ {τ : St} {K : Hp} {t : Shared}, Inv (X.blk s3 H3 scope ce fp) [] τ K t → (∀ b ∈ fp, K b = none) → ∀ b ∈ fp, FpOk (X.blk s3 H3 scope ce fp) [] K b := fun {τ K t} J' hn b hb =>
    ⟨hn b hb, (J'.ok.exf b hb).1, J'.ok.exfs b hb, .inl hb, fun x c e => (J'.ok.exf b hb).2 x c e, fun p hp => absurd (show p ∈ ([] : List (Addr × Obj)) ++ [] from hp) (by simp)⟩
  have loop : codeAny (model X.prog X.w) X.A (.compLoop (.SetComp elt [⟨tg, iter, ifs, 0⟩] scope pos) 0 (.ref it) (.ref D) ce) (compEnds (model X.prog X.w) X.A X.xe none (EP X pins σ Q) (.ref D) ce) s4 := by
    refine PpSet.compLoopS_any (fun n t => ∃ i K, Inv (X.blk s3 H3 scope ce fp) [] (wipe σ (own.map (·.2))) K t ∧ tn i t.heap ∧ (∀ b ∈ fp, K b = none) ∧ V i n K) ?_ m0 ⟨0, H3, I4, st4, nofp, v0⟩
    rintro n s5 ⟨i, K5, J5, st5, n5, v5⟩
    rcases turn i n K5 v5 with ⟨stop, qq⟩ | ⟨go, Nx, hNx, step⟩
    · refine thnF (T.done (X.blk s3 H3 scope ce fp) rfl rfl rfl calm i [] s5 _ K5 (fun _ _ => False) J5 (still J5 n5) st5 stop) fun r s6 ⟨hr, J6⟩ => ?_
      subst hr
      have I7 : Inv X pins σ K5 s6 := I3.call' (ch := fp) J6.os J6.base J6.hok J6.bare fun b hb => by
        obtain ⟨⟨_, w1, _, w2, w3, w4⟩, _⟩ := f3 b hb
        exact ⟨w2, w1, w3, w4⟩
      have nC : K5 ce.locals = none := J6.free
      obtain ⟨m, hn, _⟩ := J6.loc
      refine ⟨m, hn, fun h8 sb => ?_⟩
      obtain ⟨w0, w1, w2, w3, w4, w5⟩ := I3.fpOk (H' := K5) (b := ce.locals) (by rw [cL]; exact Nat.le_refl _) nC
      exact ⟨.ref D, K5, I7.turned (t' := s6.toks) (fun b o hb e => (sb.2 b hb).trans e) w0 w1 w3 w4 w5, rfl, qq⟩
    · refine thnF (T.item (X.blk s3 H3 scope ce fp) rfl rfl rfl calm i [] s5 _ K5 (fun _ _ => False) J5 (still J5 n5) st5 go) fun r s6 ⟨u, hr, h6⟩ => ?_
      subst hr
      refine thnF h6 fun _ s7 ⟨x, K7, J7, r7, y7, st7, n7⟩ => ?_
      have J7' := J7.pinned (still J7 n7) (T.obj _ _ st7)
      refine thnF (pg.run _ s7 _ K7 x u _ J7' r7 (step x K7 y7)) fun _ s8 ⟨τ8, K8, J8, hw8, q8⟩ => ?_
      refine thnF (pt.run _ s8 τ8 K8 _ J8 q8) fun b s9 ⟨K9, J9, q9⟩ => ?_
      -- behind a turn
      have fin : ∀ {t : Shared} {K : Hp}, Inv (X.blk s3 H3 scope ce fp) ([] ++ pinsAt fp s7.heap) τ8 K t → Nx K → ∃ m, m < n ∧ ∃ i K, Inv (X.blk s3 H3 scope ce fp) [] (wipe σ (own.map (·.2))) K t ∧ tn i t.heap ∧ (∀ b ∈ fp, K b = none) ∧ V i m K := by
        intro t K J' nx
        obtain ⟨m', hm, v'⟩ := hNx K nx
        have pinned : ∀ b ∈ fp, ∀ o, s7.heap.get? b = some o → t.heap.get? b = some o ∧ K b = none := fun b hb o e => by
          have z := J'.pin (b, o) (List.mem_append_right _ (List.mem_append_right _ (mem_pinsAt hb e)))
          exact ⟨z.1, z.2.1⟩
        refine ⟨m', hm, i + 1, K, (J'.unpinned (pins := [])).weak (by rw [← hw8, wipe_length]) (fun j v e => ?_), T.keep _ _ _ st7 fun b hb o e => (pinned b hb o e).1, fun b hb => ?_, v'⟩
        · rw [← hw8] at e
          exact (wipe_some e).1
        · obtain ⟨o, e, _⟩ := T.obj _ _ st7 b hb
          exact (pinned b hb o e).2
      cases b with
      | false => exact fin J9 q9
      | true =>
        refine wpAny_mono (pe.run _ s9 τ8 K9 _ (J9.wish _) q9) (fun z s10 ⟨yv, K10, J10, r10, k, S, c, ey, eD, lt, nx⟩ => ?_) fun e t o => outs_noted hs fL tk hW I3 (fun b hb => (f3 b hb).1) cF cL o
        have J10 := J10.unwish
        subst ey
        refine thnF (mt_sadd (X := X.blk s3 H3 scope ce fp) _ s10 τ8 K10 (.ref D) [.int k] (.ref D) [z] (fun v G => v = .non ∧ Nx G) J10 rfl (.cons r10 .nil) ⟨D, k, S, c, rfl, rfl, eD, lt, rfl, nx⟩) fun u s11 ⟨v, K11, J11, _, _, nx11⟩ => fin J11 nx11
  exact PpSet.codeAny_compStart_set loop (T.self X.A 0 _ _ _ st4 loop)
end
abbrev SxOk (w : World) (J : It) (g : TG) (tt : TT) (te : TE) (vs : List Nat) (τ : St) (G1 : Hp) (D : Addr) (Qd : Hp → Prop) : Prop :=
  ∃ V : Nat → Nat → Hp → Prop, (∃ m, V 0 m (upd G1 D (SetO w D (fun _ => false) 0))) ∧ ∀ i m G, V i m G → (J.stop i G ∧ Qd G) ∨
      (J.go i G ∧ ∃ Nx : Hp → Prop, (∀ G', Nx G' → ∃ m', m' < m ∧ V (i + 1) m' G') ∧ ∀ x G', J.yld i G x G' → g x (wipe τ vs) G' fun τ2 G2 => wipe τ2 vs = wipe τ vs ∧ tt τ2 G2 fun b G3 =>
        if b = true then te τ2 G3 fun y G4 => ∃ (k : Int) (S : Int → Bool) (n : Nat), y = .int k ∧ G4 D = some (SetO w D S n) ∧ n + 1 < scanBound ∧ Nx (upd G4 D (SetO w D (fun j => S j || decide (j = k)) (if S k = true then n else n + 1)))
        else Nx G3)
abbrev SxStep (w : World) (xs : List V) (g : TG) (tt : TT) (te : TE) (vs : List Nat) (τ : St) (D : Addr) (Pv : Nat → Hp → Prop) : Prop :=
  ∀ i x G, xs[i]? = some x → Pv i G → g x (wipe τ vs) G fun τ2 G2 => wipe τ2 vs = wipe τ vs ∧ tt τ2 G2 fun b G3 =>
      if b = true then te τ2 G3 fun y G4 => ∃ (k : Int) (S : Int → Bool) (n : Nat), y = .int k ∧ G4 D = some (SetO w D S n) ∧ n + 1 < scanBound ∧ Pv (i + 1) (upd G4 D (SetO w D (fun j => S j || decide (j = k)) (if S k = true then n else n + 1)))
      else Pv (i + 1) G3
/-- over a list or a tuple that the block leaves as it is -/
theorem sx_seq {w : World} {J : It} {xs : List V} {g : TG} {tt : TT} {te : TE} {vs : List Nat} {τ : St} {G1 : Hp} {D : Addr} {Qd : Hp → Prop} (Pv : Nat → Hp → Prop) (h0 : Pv 0 (upd G1 D (SetO w D (fun _ => false) 0)))
    (stop : ∀ G, Pv xs.length G → J.stop xs.length G) (go : ∀ i G, i < xs.length → Pv i G → J.go i G) (yld : ∀ i G x G', i < xs.length → Pv i G → J.yld i G x G' → G' = G ∧ xs[i]? = some x)
    (step : SxStep w xs g tt te vs τ D Pv) (done : ∀ G, Pv xs.length G → Qd G) : SxOk w J g tt te vs τ G1 D Qd := by
  refine ⟨fun i m G => m = xs.length - i ∧ i ≤ xs.length ∧ Pv i G, ⟨xs.length, rfl, Nat.zero_le _, h0⟩, ?_⟩
  rintro i m G ⟨rfl, le, p⟩
  rcases Nat.lt_or_ge i xs.length with lt | ge
  · refine .inr ⟨go i G lt p, Pv (i + 1), fun G' p' => ⟨xs.length - (i + 1), by omega, rfl, lt, p'⟩, fun x G' y => ?_⟩
    obtain ⟨rfl, e⟩ := yld i G x G' lt p y
    exact step i x _ e p
  · obtain rfl : i = xs.length := by omega
    exact .inl ⟨stop G p, done G p⟩
theorem sx_list {w : World} {K : PySem.W.Frag} {a : Addr} {xs : List V} {g : TG} {tt : TT} {te : TE} {vs : List Nat} {τ : St} {G1 : Hp} {D : Addr} {Qd : Hp → Prop} (Pv : Nat → Hp → Prop) (h0 : Pv 0 (upd G1 D (SetO w D (fun _ => false) 0))) (hl : ∀ i G, i ≤ xs.length → Pv i G → SqL K G a xs)
    (step : SxStep w xs g tt te vs τ D Pv) (done : ∀ G, Pv xs.length G → Qd G) : SxOk w (Itl K a) g tt te vs τ G1 D Qd :=
  sx_seq (J := Itl K a) Pv h0 (fun G p => ⟨xs, hl _ G (Nat.le_refl _) p, Nat.le_refl _⟩) (fun i G lt p => ⟨xs, xs[i], hl i G (Nat.le_of_lt lt) p, by simp [lt]⟩) (fun i G x G' lt p y => ⟨y.1, y.2 xs (hl i G (Nat.le_of_lt lt) p)⟩) step done
theorem sx_tup {w : World} {K : PySem.W.Frag} {a : Addr} {xs : List V} {g : TG} {tt : TT} {te : TE} {vs : List Nat} {τ : St} {G1 : Hp} {D : Addr} {Qd : Hp → Prop} (Pv : Nat → Hp → Prop) (h0 : Pv 0 (upd G1 D (SetO w D (fun _ => false) 0))) (hl : ∀ i G, i ≤ xs.length → Pv i G → SqT K G a xs)
    (step : SxStep w xs g tt te vs τ D Pv) (done : ∀ G, Pv xs.length G → Qd G) : SxOk w (Itt K a) g tt te vs τ G1 D Qd :=
  sx_seq (J := Itt K a) Pv h0 (fun G p => ⟨xs, hl _ G (Nat.le_refl _) p, Nat.le_refl _⟩) (fun i G lt p => ⟨xs, xs[i], hl i G (Nat.le_of_lt lt) p, by simp [lt]⟩) (fun i G x G' lt p y => ⟨y.1, y.2 xs (hl i G (Nat.le_of_lt lt) p)⟩) step done
end L2

set_option Elab.async false
set_option linter.all false
set_option maxRecDepth 100000
set_option maxHeartbeats 8000000
namespace J
open PySem PySem.Spec PyProof.Rows L2
/-! ### the company of some guests -/
def pickL (is : List Int) (js : List Nat) : List Int := js.map fun j => (is[j]?).getD 0
def butJ (n j : Nat) : List Nat := (List.range n).filter fun i => decide (i ≠ j)
theorem pickL_at {is : List Int} {js : List Nat} {i : Nat} {y : Int} (e : (pickL is js)[i]? = some y) (h : ∀ j ∈ js, j < is.length) : ∃ j, js[i]? = some j ∧ is[j]? = some y := by
  unfold pickL at e
  rw [List.getElem?_map] at e
  cases q : js[i]? with
  | none => rw [q] at e; cases e
  | some j =>
    rw [q] at e
    have lt := h j (List.mem_of_getElem? q)
    have ej := List.getElem?_eq_getElem lt
    refine ⟨j, rfl, ?_⟩
    have e : some ((is[j]?).getD 0) = some y := e
    rw [ej] at e
    rw [ej]
    exact e
theorem pickL_asc {is : List Int} {js : List Nat} (a : Asc is) (s : js.Pairwise (· < ·)) (h : ∀ j ∈ js, j < is.length) : Asc (pickL is js) := by
  intro i x y e1 e2
  obtain ⟨j1, q1, r1⟩ := pickL_at e1 h
  obtain ⟨j2, q2, r2⟩ := pickL_at e2 h
  have i1 := (List.getElem?_eq_some_iff.mp q1).1
  have i2 := (List.getElem?_eq_some_iff.mp q2).1
  have lt : j1 < j2 := by
    have := List.pairwise_iff_getElem.mp s i (i + 1) i1 i2 (Nat.lt_succ_self i)
    rw [List.getElem?_eq_getElem i1] at q1
    rw [List.getElem?_eq_getElem i2] at q2
    rw [← Option.some.inj q1, ← Option.some.inj q2]
    exact this
  exact Asc.lt a (j2 - j1 - 1) j1 x y r1 (by rw [show j1 + 1 + (j2 - j1 - 1) = j2 by omega]; exact r2)
theorem pickL_labs {is : List Int} {js : List Nat} (l : ∀ n ∈ is, 0 ≤ n ∧ n ≤ 1000000000) (h : ∀ j ∈ js, j < is.length) : ∀ n ∈ pickL is js, 0 ≤ n ∧ n ≤ 1000000000 := fun n hn => by
  obtain ⟨i, e⟩ := List.getElem?_of_mem hn
  obtain ⟨j, _, r⟩ := pickL_at e h
  exact l n (List.mem_of_getElem? r)
theorem pickL_len {is : List Int} {js : List Nat} : (pickL is js).length = js.length := List.length_map _
theorem lt_nodup {js : List Nat} (s : js.Pairwise (· < ·)) : js.Nodup := s.imp fun h e => by omega
theorem lt_len {m : Nat} {js : List Nat} (s : js.Pairwise (· < ·)) (h : ∀ j ∈ js, j < m) : js.length ≤ m := by
  have key : ∀ i (hi : i < js.length), i ≤ js[i] := fun i => by
    induction i with
    | zero => intro _; exact Nat.zero_le _
    | succ i ih =>
      intro hi
      have := ih (by omega)
      have := List.pairwise_iff_getElem.mp s i (i + 1) (by omega) hi (Nat.lt_succ_self i)
      omega
  rcases Nat.eq_zero_or_pos js.length with z | z
  · omega
  · have := key (js.length - 1) (by omega)
    have := h _ (List.getElem_mem (l := js) (n := js.length - 1) (by omega))
    omega
theorem butJ_lt (n j : Nat) : (butJ n j).Pairwise (· < ·) := List.Pairwise.filter _ List.pairwise_lt_range
theorem butJ_mem {n j i : Nat} : i ∈ butJ n j ↔ i < n ∧ i ≠ j := by
  unfold butJ
  rw [List.mem_filter, List.mem_range, decide_eq_true_eq]
/-- the places that are told by the first things -/
def seatS (is : List Int) (xs : List V) (i : Nat) : Int → Bool := fun k => (xs.take i).any fun y => match seat is y with | some j => decide (k = (j : Int)) | none => false
theorem seatS_succ {is : List Int} {xs : List V} {i j : Nat} {y : V} (e : xs[i]? = some y) (hj : seat is y = some j) : (fun k => seatS is xs i k || decide (k = (j : Int))) = seatS is xs (i + 1) := by
  funext k
  unfold seatS
  rw [List.take_add_one, e, List.any_append]
  simp [hj]
theorem seatS_mem {is : List Int} {xs : List V} {k : Int} : seatS is xs xs.length k = true ↔ ∃ y ∈ xs, ∃ j : Nat, seat is y = some j ∧ k = (j : Int) := by
  unfold seatS
  rw [List.take_length, List.any_eq_true]
  constructor
  · rintro ⟨y, hy, q⟩
    cases e : seat is y with
    | none => rw [e] at q; cases q
    | some j => rw [e] at q; exact ⟨y, hy, j, e, of_decide_eq_true q⟩
  · rintro ⟨y, hy, j, e, q⟩
    exact ⟨y, hy, by rw [e]; exact decide_eq_true q⟩
def cntS (m : Nat) (S : Int → Bool) : Nat := (List.range m).countP fun j : Nat => S (j : Int)
theorem cntS_le {m : Nat} {S : Int → Bool} : cntS m S ≤ m := by
  have := List.countP_le_length (p := fun j : Nat => S (j : Int)) (l := List.range m)
  rw [List.length_range] at this
  exact this
theorem cntS_add {m j : Nat} {S : Int → Bool} (h : j < m) : cntS m (fun k => S k || decide (k = (j : Int))) = if S (j : Int) = true then cntS m S else cntS m S + 1 := by
  have key : ∀ l : List Nat, l.Nodup → (l.countP fun i : Nat => S (i : Int) || decide ((i : Int) = (j : Int))) = if j ∈ l ∧ S (j : Int) = false then l.countP (fun i : Nat => S (i : Int)) + 1 else l.countP fun i : Nat => S (i : Int) := by
    intro l nd
    induction l with
    | nil => simp
    | cons x xs ih =>
      rw [List.nodup_cons] at nd
      have ih := ih nd.2
      rw [List.countP_cons, List.countP_cons, ih]
      by_cases c : x = j
      · subst c
        have nx : ¬ (x ∈ xs ∧ S (x : Int) = false) := fun q => nd.1 q.1
        rw [if_neg nx]
        cases q : S (x : Int) <;> simp [q]
      · have ne : ¬ ((x : Int) = (j : Int)) := fun q => c (by omega)
        have me : (j ∈ x :: xs) ↔ j ∈ xs := by
          rw [List.mem_cons]
          exact ⟨fun q => q.resolve_left fun e => c e.symm, .inr⟩
        rw [decide_eq_false ne, Bool.or_false]
        simp only [me]
        by_cases d : j ∈ xs ∧ S (j : Int) = false
        · rw [if_pos d, if_pos d]
          omega
        · rw [if_neg d, if_neg d]
  unfold cntS
  rw [key _ List.nodup_range]
  have hm := List.mem_range.mpr h
  by_cases q : S (j : Int) = true
  · rw [if_pos q, if_neg fun z => by rw [q] at z; cases z.2]
  · rw [if_neg q, if_pos ⟨hm, by simpa using q⟩]
abbrev s_Company_part_of : Stmt := inClass (top 17) 8
theorem sc_Company_part_of : FnScope ["self", "labels", "places", "label", "place"] ["self", "labels"] (defScope s_Company_part_of) := ⟨rfl, rfl, rfl, by decide +kernel, rfl, by decide +kernel, by decide +kernel⟩
abbrev s_Company_without : Stmt := inClass (top 17) 9
theorem sc_Company_without : FnScope ["self", "label", "left_out", "places", "place"] ["self", "label"] (defScope s_Company_without) := ⟨rfl, rfl, rfl, by decide +kernel, rfl, by decide +kernel, by decide +kernel⟩
def spPart (C CC CN : Addr) : Sp := fun vs H Q E => ∃ (x : Addr) (ns is : List Int) (tss : List (List Int)) (v : V) (s : Sh), vs = [.ref x, v] ∧ CompAt C CC H x ns is tss ∧ GoodB ns ∧ Is H v s ∧ (s.isL || s.isT) = true ∧ Known H (items s) ∧ (items s).length ≤ 900 ∧
  (∀ (i : Nat) (y : V), (items s)[i]? = some y → seat is y = none → (∀ (i' : Nat) (y' : V), i' < i → (items s)[i']? = some y' → (seat is y').isSome = true) → Tells H CN "label" y E) ∧
  ((∀ y ∈ items s, (seat is y).isSome = true) → ∀ js : List Nat, js.Pairwise (· < ·) → (∀ j, j ∈ js ↔ ∃ y ∈ items s, seat is y = some j) → ∀ (H' : Hp) (z : Addr), Same H H' → CompAt C CC H' z ns (pickL is js) (subT ns tss js js.length) → Q (.ref z) H')
def spWo (C CC CN : Addr) : Sp := fun vs H Q E => ∃ (x : Addr) (ns is : List Int) (tss : List (List Int)) (v : V) (s : Sh), vs = [.ref x, v] ∧ CompAt C CC H x ns is tss ∧ GoodB ns ∧ Is H v s ∧ (seat is v = none → Tells H CN "label" v E) ∧
  ∀ j, seat is v = some j → ∀ (H' : Hp) (z : Addr), Same H H' → CompAt C CC H' z ns (pickL is (butJ is.length j)) (subT ns tss (butJ is.length j) (butJ is.length j).length) → Q (.ref z) H'
theorem nat_list {ns : List Int} (h : ∀ k ∈ ns, 0 ≤ k) : ns = (ns.map Int.toNat).map fun j : Nat => (j : Int) := by
  rw [List.map_map]
  refine (List.map_id' ns).symm.trans (List.map_congr_left fun k hk => ?_)
  exact (Int.toNat_of_nonneg (h k hk)).symm
section
variable {P : Program} {w : World} {K : PySem.W.Frag} {mg : Str → Option Value} {base : Heap}
theorem ok_Company_part_of {f C CC CN fP fS : Addr} {fd fdP fdS : FuncData} (F : Fun K "part_of" "Company.part_of" s_Company_part_of f fd) (c : CoC K CC) (nso : mg "sorted" = none)
    (GP : Mt P w K mg base (L2.CX P w) 4 CC "place_of" fP fdP ["self", "label"] (spCPlace C CC CN)) (GS : Mt P w K mg base CX0 7 CC "_seated" fS fdS ["self", "labels", "places"] (spSeated C CC)) :
    FnOk P w K mg base (L2.CX P w) 8 f fd ["self", "labels"] (spPart C CC CN) := by
  refine F.okX sc_Company_part_of (fun vs H Q E h => ?_) (fun cdv A outer s H vs Q E hr h => ?_)
  · obtain ⟨x, ns, is, tss, v, s, rfl, _⟩ := h
    rfl
  · obtain ⟨x, ns, is, tss, v, sh, rfl, hC, gb, hv, sq, kn, l900, kb, kg⟩ := h
    obtain ⟨dx, t, g, r, b, p, ps, kvs, a1, a2, a3, a4, a5, a6, a7, a8, a9, a10, a11⟩ := id hC
    cases sh with
    | sc u => cases sq
    | dk => cases sq
    | lst xs =>
      refine ⟨_, (pss_cons 
  (ps_set (i := 2) sc_Company_part_of.nd rfl (Or.inl rfl) (pe_callB (id := "sorted") (r := rSortedSet w) (cr_sortedSet rfl) (by rfl) nso (by decide +kernel) (pa_cons
    (pe_sx (W := fun cls d _ G => E cls d G) (E := E) (own := [("label", 3)]) (g := gName 3) rfl rfl (takes_of rfl rfl rfl rfl) (fun _ _ _ _ h => h) rfl sc_Company_part_of.nd (pi_list (pv 1)) (blkOk_by (own := [("label", 3)]) (N := ["self", "labels", "places", "label", "place"]) (sc := defScope s_Company_part_of) (by decide +kernel))
      (fun _ _ _ _ _ => pg_name (i := 3) sc_Company_part_of.nd rfl (Or.inl rfl)) (fun _ _ _ _ _ => pts_nil) (fun _ _ _ _ _ => (pe_meth (pv 0) c.cl GP.M GP.F (hr.mono (by decide)) GP.b .nil (fun ps τ G s1 u t I cc => ⟨ps, τ, G, s1, I.unwish, cc⟩) (pa_cons (pv 3) pa_nil)))) pa_nil))) (pss_one 
  (ps_ret (pe_meth (pv 0) c.cl GS.M GS.F hr GS.b .nil pass0 (pa_cons (pe_lc (own := [("place", 4)]) (g := gName 4) (by rfl) sc_Company_part_of.nd (pi_list (pv 2)) (blkOk_by (own := [("place", 4)]) (N := ["self", "labels", "places", "label", "place"]) (sc := defScope s_Company_part_of) (by decide +kernel)) (fun _ _ _ _ _ => pg_name (i := 4) sc_Company_part_of.nd rfl (Or.inl rfl)) (fun _ _ _ _ _ => pts_nil) (fun _ _ _ _ _ => (pe_ix (r := rIxT K) ix_tup (show PE _ _ (tFld K (tVar 0) "guests") from pe_fld (pv 0) rfl) (pv 4) (fun _ _ => rfl)))) (pa_cons (pv 2) pa_nil)))))), ?_⟩
      obtain ⟨pa, rfl, hp⟩ := hv
      have l900 : xs.length ≤ 900 := l900
      have kn : Known H xs := kn
      refine ⟨_, rfl, pa, rfl, ⟨_, SqL.of hp⟩, fun D hD => ?_⟩
      refine sx_list (K := K) (a := pa) (xs := xs) (fun i G => Same H G ∧ H D = none ∧ G D = some (SetO w D (seatS is xs i) (cntS is.length (seatS is xs i))) ∧ ∀ i' y', i' < i → xs[i']? = some y' → (seat is y').isSome = true) ?_ (fun i G _ ⟨S, _⟩ => SqL.of (S _ _ hp)) ?_ ?_
      · refine ⟨new_same hD, hD, ?_, fun i' y' q => absurd q (Nat.not_lt_zero _)⟩
        have e : seatS is xs 0 = fun _ => false := by
          funext k
          simp [seatS]
        have z : cntS is.length (fun _ => false) = 0 := by simp [cntS]
        rw [upd_same, e, z]
        rfl
      · rintro i y G hy ⟨S1, D0, eD, ok⟩
        obtain ⟨sy, iy⟩ := kn y (List.mem_of_getElem? hy)
        have cG := hC.keep S1
        refine ⟨rfl, yesT ?_⟩
        refine ⟨_, rfl, x, dx, _, rfl, S1 _ _ a1, cf_no _ _ _ _ _ (by decide +kernel) (by decide +kernel) (by decide +kernel) (by decide +kernel) (by decide +kernel), _, rfl, x, ns, is, tss, y, sy, rfl, cG, iy.keep S1, fun j ej => ?_, fun e => (kb i y hy e fun i' y' lt q => ok i' y' lt q).mono S1⟩
        obtain ⟨_, _, _, jl⟩ := seat_some ej
        have le := cntS_le (m := is.length) (S := seatS is xs i)
        refine ⟨(j : Nat), _, _, rfl, eD, Nat.lt_of_le_of_lt (show cntS is.length (seatS is xs i) + 1 ≤ 61 by omega) (by decide), ?_⟩
        rw [seatS_succ hy ej, ← cntS_add jl, seatS_succ hy ej]
        refine ⟨fun a o e => ?_, D0, upd_same, fun i' y' lt q => ?_⟩
        · rw [upd_ne (ne_of_none e D0)]
          exact S1 _ _ e
        · rcases Nat.lt_or_ge i' i with lt' | ge
          · exact ok i' y' lt' q
          · obtain rfl : i' = i := by omega
            rw [hy] at q
            rw [← Option.some.inj q, ej]
            rfl
      rintro G ⟨S1, D0, eD, ok⟩
      have all : ∀ y ∈ xs, (seat is y).isSome = true := fun y hy => by
        obtain ⟨i, e⟩ := List.getElem?_of_mem hy
        exact ok i y (List.getElem?_eq_some_iff.mp e).1 e
      have le := cntS_le (m := is.length) (S := seatS is xs xs.length)
      refine ⟨D, _, _, rfl, eD, by omega, fun ms l pw mem ml hl => ?_⟩
      have m0 : ∀ k ∈ ms, 0 ≤ k := fun k hk => by
        obtain ⟨_, _, j, _, rfl⟩ := seatS_mem.mp ((mem k).mp hk)
        exact Int.natCast_nonneg j
      have me := nat_list m0
      have jmem : ∀ j : Nat, j ∈ ms.map Int.toNat ↔ ∃ y ∈ xs, seat is y = some j := fun j => by
        constructor
        · intro q
          obtain ⟨k, hk, rfl⟩ := List.mem_map.mp q
          obtain ⟨y, hy, j, e, rfl⟩ := seatS_mem.mp ((mem k).mp hk)
          exact ⟨y, hy, by simpa using e⟩
        · rintro ⟨y, hy, e⟩
          exact List.mem_map.mpr ⟨(j : Int), (mem _).mpr (seatS_mem.mpr ⟨y, hy, j, e, rfl⟩), by simp⟩
      have jpw : (ms.map Int.toNat).Pairwise (· < ·) := by
        rw [List.pairwise_map]
        refine List.Pairwise.imp_of_mem (fun {a b} ha hb q => ?_) pw
        have := m0 a ha
        have := m0 b hb
        omega
      generalize ms.map Int.toNat = js at me jmem jpw
      subst me
      have jlt : ∀ j ∈ js, j < is.length := fun j hj => by
        obtain ⟨y, _, e⟩ := (jmem j).mp hj
        obtain ⟨_, _, _, q⟩ := seat_some e
        exact q
      have jl := lt_len jpw jlt
      have T := S1.trans (new_same (o := .lst ((js.map fun j : Nat => (j : Int)).map V.int)) hl)
      have el : (upd G l (.lst ((js.map fun j : Nat => (j : Int)).map V.int))) l = some (.lst (js.map fun j : Nat => V.int (j : Nat))) := by
        rw [upd_same, List.map_map]
        rfl
      generalize upd G l (.lst ((js.map fun j : Nat => (j : Int)).map V.int)) = G2 at T el
      refine ⟨_, rfl, x, dx, _, rfl, T _ _ a1, cf_no _ _ _ _ _ (by decide +kernel) (by decide +kernel) (by decide +kernel) (by decide +kernel) (by decide +kernel), _, rfl, l, rfl, ⟨_, SqL.of el⟩, fun D2 hD2 => ?_⟩
      refine lc_list (K := K) (a := l) (xs := js.map fun j : Nat => V.int (j : Nat)) (fun i G3 => Same G2 G3 ∧ G2 D2 = none ∧ G3 D2 = some (.lst ((pickL is (js.take i)).map V.int))) ⟨new_same hD2, hD2, upd_same⟩ (fun i G3 _ ⟨S, _⟩ => SqL.of (S _ _ el)) ?_ ?_
      · rintro i y G3 hy ⟨S3, E0, eE⟩
        rw [List.getElem?_map] at hy
        cases hi : js[i]? with
        | none => rw [hi] at hy; cases hy
        | some j =>
          rw [hi] at hy
          obtain rfl : V.int (j : Nat) = y := Option.some.inj hy
          have jb := jlt j (List.mem_of_getElem? hi)
          have ej := List.getElem?_eq_getElem jb
          refine ⟨rfl, yesT ?_⟩
          refine ⟨_, rfl, x, CC, dx, _, _, rfl, S3 _ _ (T _ _ a1), c.cl, c.nG, cf_guests _ _ _ _ _, _, rfl, g, _, _, _, rfl, rfl, SqT.of (S3 _ _ (T _ _ a3)), at_of (j := j) rfl (by rw [List.getElem?_map, ej]; rfl), ?_⟩
          refine ⟨_, eE, small1000 ?_, fun a o e => ?_, E0, ?_⟩
          · rw [List.length_map, pickL_len, List.length_take]
            omega
          · rw [upd_ne (ne_of_none e E0)]
            exact S3 _ _ e
          · rw [upd_same, List.take_add_one, hi]
            unfold pickL
            rw [List.map_append, List.map_append]
            have q : (is[j]?).getD 0 = is[j] := by rw [ej]; rfl
            show _ = some (HO.lst (_ ++ [V.int ((is[j]?).getD 0)]))
            rw [q]
      rintro G3 ⟨S3, E0, eE⟩
      rw [List.length_map, List.take_length] at eE
      have T3 := T.trans S3
      refine ⟨_, rfl, x, D2, l, ns, is, pickL is js, tss, js, rfl, hC.keep T3, gb, eE, S3 _ _ el, pickL_len, by omega, pickL_asc a8 jpw jlt, pickL_labs a11 jlt, jlt, lt_nodup jpw, fun H' z S' cz => kg all js jpw jmem H' z (T3.trans S') cz⟩
    | tup xs =>
      refine ⟨_, (pss_cons 
  (ps_set (i := 2) sc_Company_part_of.nd rfl (Or.inl rfl) (pe_callB (id := "sorted") (r := rSortedSet w) (cr_sortedSet rfl) (by rfl) nso (by decide +kernel) (pa_cons
    (pe_sx (W := fun cls d _ G => E cls d G) (E := E) (own := [("label", 3)]) (g := gName 3) rfl rfl (takes_of rfl rfl rfl rfl) (fun _ _ _ _ h => h) rfl sc_Company_part_of.nd (pi_tup (pv 1)) (blkOk_by (own := [("label", 3)]) (N := ["self", "labels", "places", "label", "place"]) (sc := defScope s_Company_part_of) (by decide +kernel))
      (fun _ _ _ _ _ => pg_name (i := 3) sc_Company_part_of.nd rfl (Or.inl rfl)) (fun _ _ _ _ _ => pts_nil) (fun _ _ _ _ _ => (pe_meth (pv 0) c.cl GP.M GP.F (hr.mono (by decide)) GP.b .nil (fun ps τ G s1 u t I cc => ⟨ps, τ, G, s1, I.unwish, cc⟩) (pa_cons (pv 3) pa_nil)))) pa_nil))) (pss_one 
  (ps_ret (pe_meth (pv 0) c.cl GS.M GS.F hr GS.b .nil pass0 (pa_cons (pe_lc (own := [("place", 4)]) (g := gName 4) (by rfl) sc_Company_part_of.nd (pi_list (pv 2)) (blkOk_by (own := [("place", 4)]) (N := ["self", "labels", "places", "label", "place"]) (sc := defScope s_Company_part_of) (by decide +kernel)) (fun _ _ _ _ _ => pg_name (i := 4) sc_Company_part_of.nd rfl (Or.inl rfl)) (fun _ _ _ _ _ => pts_nil) (fun _ _ _ _ _ => (pe_ix (r := rIxT K) ix_tup (show PE _ _ (tFld K (tVar 0) "guests") from pe_fld (pv 0) rfl) (pv 4) (fun _ _ => rfl)))) (pa_cons (pv 2) pa_nil)))))), ?_⟩
      obtain ⟨pa, rfl, hp⟩ := hv
      have l900 : xs.length ≤ 900 := l900
      have kn : Known H xs := kn
      refine ⟨_, rfl, pa, rfl, ⟨_, SqT.of hp⟩, fun D hD => ?_⟩
      refine sx_tup (K := K) (a := pa) (xs := xs) (fun i G => Same H G ∧ H D = none ∧ G D = some (SetO w D (seatS is xs i) (cntS is.length (seatS is xs i))) ∧ ∀ i' y', i' < i → xs[i']? = some y' → (seat is y').isSome = true) ?_ (fun i G _ ⟨S, _⟩ => SqT.of (S _ _ hp)) ?_ ?_
      · refine ⟨new_same hD, hD, ?_, fun i' y' q => absurd q (Nat.not_lt_zero _)⟩
        have e : seatS is xs 0 = fun _ => false := by
          funext k
          simp [seatS]
        have z : cntS is.length (fun _ => false) = 0 := by simp [cntS]
        rw [upd_same, e, z]
        rfl
      · rintro i y G hy ⟨S1, D0, eD, ok⟩
        obtain ⟨sy, iy⟩ := kn y (List.mem_of_getElem? hy)
        have cG := hC.keep S1
        refine ⟨rfl, yesT ?_⟩
        refine ⟨_, rfl, x, dx, _, rfl, S1 _ _ a1, cf_no _ _ _ _ _ (by decide +kernel) (by decide +kernel) (by decide +kernel) (by decide +kernel) (by decide +kernel), _, rfl, x, ns, is, tss, y, sy, rfl, cG, iy.keep S1, fun j ej => ?_, fun e => (kb i y hy e fun i' y' lt q => ok i' y' lt q).mono S1⟩
        obtain ⟨_, _, _, jl⟩ := seat_some ej
        have le := cntS_le (m := is.length) (S := seatS is xs i)
        refine ⟨(j : Nat), _, _, rfl, eD, Nat.lt_of_le_of_lt (show cntS is.length (seatS is xs i) + 1 ≤ 61 by omega) (by decide), ?_⟩
        rw [seatS_succ hy ej, ← cntS_add jl, seatS_succ hy ej]
        refine ⟨fun a o e => ?_, D0, upd_same, fun i' y' lt q => ?_⟩
        · rw [upd_ne (ne_of_none e D0)]
          exact S1 _ _ e
        · rcases Nat.lt_or_ge i' i with lt' | ge
          · exact ok i' y' lt' q
          · obtain rfl : i' = i := by omega
            rw [hy] at q
            rw [← Option.some.inj q, ej]
            rfl
      rintro G ⟨S1, D0, eD, ok⟩
      have all : ∀ y ∈ xs, (seat is y).isSome = true := fun y hy => by
        obtain ⟨i, e⟩ := List.getElem?_of_mem hy
        exact ok i y (List.getElem?_eq_some_iff.mp e).1 e
      have le := cntS_le (m := is.length) (S := seatS is xs xs.length)
      refine ⟨D, _, _, rfl, eD, by omega, fun ms l pw mem ml hl => ?_⟩
      have m0 : ∀ k ∈ ms, 0 ≤ k := fun k hk => by
        obtain ⟨_, _, j, _, rfl⟩ := seatS_mem.mp ((mem k).mp hk)
        exact Int.natCast_nonneg j
      have me := nat_list m0
      have jmem : ∀ j : Nat, j ∈ ms.map Int.toNat ↔ ∃ y ∈ xs, seat is y = some j := fun j => by
        constructor
        · intro q
          obtain ⟨k, hk, rfl⟩ := List.mem_map.mp q
          obtain ⟨y, hy, j, e, rfl⟩ := seatS_mem.mp ((mem k).mp hk)
          exact ⟨y, hy, by simpa using e⟩
        · rintro ⟨y, hy, e⟩
          exact List.mem_map.mpr ⟨(j : Int), (mem _).mpr (seatS_mem.mpr ⟨y, hy, j, e, rfl⟩), by simp⟩
      have jpw : (ms.map Int.toNat).Pairwise (· < ·) := by
        rw [List.pairwise_map]
        refine List.Pairwise.imp_of_mem (fun {a b} ha hb q => ?_) pw
        have := m0 a ha
        have := m0 b hb
        omega
      generalize ms.map Int.toNat = js at me jmem jpw
      subst me
      have jlt : ∀ j ∈ js, j < is.length := fun j hj => by
        obtain ⟨y, _, e⟩ := (jmem j).mp hj
        obtain ⟨_, _, _, q⟩ := seat_some e
        exact q
      have jl := lt_len jpw jlt
      have T := S1.trans (new_same (o := .lst ((js.map fun j : Nat => (j : Int)).map V.int)) hl)
      have el : (upd G l (.lst ((js.map fun j : Nat => (j : Int)).map V.int))) l = some (.lst (js.map fun j : Nat => V.int (j : Nat))) := by
        rw [upd_same, List.map_map]
        rfl
      generalize upd G l (.lst ((js.map fun j : Nat => (j : Int)).map V.int)) = G2 at T el
      refine ⟨_, rfl, x, dx, _, rfl, T _ _ a1, cf_no _ _ _ _ _ (by decide +kernel) (by decide +kernel) (by decide +kernel) (by decide +kernel) (by decide +kernel), _, rfl, l, rfl, ⟨_, SqL.of el⟩, fun D2 hD2 => ?_⟩
      refine lc_list (K := K) (a := l) (xs := js.map fun j : Nat => V.int (j : Nat)) (fun i G3 => Same G2 G3 ∧ G2 D2 = none ∧ G3 D2 = some (.lst ((pickL is (js.take i)).map V.int))) ⟨new_same hD2, hD2, upd_same⟩ (fun i G3 _ ⟨S, _⟩ => SqL.of (S _ _ el)) ?_ ?_
      · rintro i y G3 hy ⟨S3, E0, eE⟩
        rw [List.getElem?_map] at hy
        cases hi : js[i]? with
        | none => rw [hi] at hy; cases hy
        | some j =>
          rw [hi] at hy
          obtain rfl : V.int (j : Nat) = y := Option.some.inj hy
          have jb := jlt j (List.mem_of_getElem? hi)
          have ej := List.getElem?_eq_getElem jb
          refine ⟨rfl, yesT ?_⟩
          refine ⟨_, rfl, x, CC, dx, _, _, rfl, S3 _ _ (T _ _ a1), c.cl, c.nG, cf_guests _ _ _ _ _, _, rfl, g, _, _, _, rfl, rfl, SqT.of (S3 _ _ (T _ _ a3)), at_of (j := j) rfl (by rw [List.getElem?_map, ej]; rfl), ?_⟩
          refine ⟨_, eE, small1000 ?_, fun a o e => ?_, E0, ?_⟩
          · rw [List.length_map, pickL_len, List.length_take]
            omega
          · rw [upd_ne (ne_of_none e E0)]
            exact S3 _ _ e
          · rw [upd_same, List.take_add_one, hi]
            unfold pickL
            rw [List.map_append, List.map_append]
            have q : (is[j]?).getD 0 = is[j] := by rw [ej]; rfl
            show _ = some (HO.lst (_ ++ [V.int ((is[j]?).getD 0)]))
            rw [q]
      rintro G3 ⟨S3, E0, eE⟩
      rw [List.length_map, List.take_length] at eE
      have T3 := T.trans S3
      refine ⟨_, rfl, x, D2, l, ns, is, pickL is js, tss, js, rfl, hC.keep T3, gb, eE, S3 _ _ el, pickL_len, by omega, pickL_asc a8 jpw jlt, pickL_labs a11 jlt, jlt, lt_nodup jpw, fun H' z S' cz => kg all js jpw jmem H' z (T3.trans S') cz⟩
end
end J

set_option Elab.async false
set_option linter.all false
set_option maxRecDepth 100000
set_option maxHeartbeats 8000000
namespace J
open PySem PySem.Spec PyProof.Rows L2
section
variable {P : Program} {w : World} {K : PySem.W.Frag} {mg : Str → Option Value} {base : Heap}
theorem butJ_take {j i : Nat} : ((List.range (i + 1)).filter fun k => decide (k ≠ j)) = ((List.range i).filter fun k => decide (k ≠ j)) ++ if i ≠ j then [i] else [] := by
  rw [List.range_succ, List.filter_append]
  congr 1
  by_cases c : i = j <;> simp [c]
theorem ok_Company_without {f C CC CN fP fS : Addr} {fd fdP fdS : FuncData} (F : Fun K "without" "Company.without" s_Company_without f fd) (c : CoC K CC) (nl : mg "len" = none) (nr : mg "range" = none)
    (GP : Mt P w K mg base (L2.CX P w) 4 CC "place_of" fP fdP ["self", "label"] (spCPlace C CC CN)) (GS : Mt P w K mg base CX0 7 CC "_seated" fS fdS ["self", "labels", "places"] (spSeated C CC)) :
    FnOk P w K mg base (L2.CX P w) 8 f fd ["self", "label"] (spWo C CC CN) := by
  refine F.okX sc_Company_without (fun vs H Q E h => ?_) (fun cdv A outer s H vs Q E hr h => ?_)
  · obtain ⟨x, ns, is, tss, v, s, rfl, _⟩ := h
    rfl
  · obtain ⟨x, ns, is, tss, v, sh, rfl, hC, gb, hv, kb, kg⟩ := h
    obtain ⟨dx, t, g, r, b, p, ps, kvs, a1, a2, a3, a4, a5, a6, a7, a8, a9, a10, a11⟩ := id hC
    refine ⟨_, (pss_cons 
  (ps_set (i := 2) sc_Company_without.nd rfl (Or.inr rfl) (pe_meth (pv 0) c.cl GP.M GP.F (hr.mono (by decide)) GP.b .nil (passes_call (takes_of rfl rfl rfl rfl) (fun _ _ _ _ h => h)) (pa_cons (pv 1) pa_nil))) (pss_cons 
  (ps_setLc (i := 3) (own := [("place", 4)]) (g := gName 4) rfl sc_Company_without.nd rfl rfl (sw_true rfl rfl rfl (by decide +kernel)) (pi_range1 (by rfl) nr (pa_cons (pe_callB call_len_seq (by rfl) nl PySem.boot_len (pa_cons (pe_fld (pv 0) rfl) pa_nil)) pa_nil)) (blkOk_by (own := [("place", 4)]) (N := ["self", "label", "left_out", "places", "place"]) (sc := defScope s_Company_without) (by decide +kernel)) (fun _ _ _ _ _ => pg_name (i := 4) sc_Company_without.nd rfl (Or.inl rfl)) (fun _ _ _ _ _ => pts_one (pt_cmpR op_ne (pv 4) (pv 2) (nomark _))) (fun _ _ _ _ _ => (pv 4))) (pss_one 
  (ps_ret (pe_meth (pv 0) c.cl GS.M GS.F hr GS.b .nil pass0 (pa_cons (pe_lc (own := [("place", 4)]) (g := gName 4) (by rfl) sc_Company_without.nd (pi_list (pv 3)) (blkOk_by (own := [("place", 4)]) (N := ["self", "label", "left_out", "places", "place"]) (sc := defScope s_Company_without) (by decide +kernel)) (fun _ _ _ _ _ => pg_name (i := 4) sc_Company_without.nd rfl (Or.inl rfl)) (fun _ _ _ _ _ => pts_nil) (fun _ _ _ _ _ => (pe_ix (r := rIxT K) ix_tup (show PE _ _ (tFld K (tVar 0) "guests") from pe_fld (pv 0) rfl) (pv 4) (fun _ _ => rfl)))) (pa_cons (pv 3) pa_nil))))))), ?_⟩
    refine ⟨_, rfl, x, dx, _, rfl, a1, cf_no _ _ _ _ _ (by decide +kernel) (by decide +kernel) (by decide +kernel) (by decide +kernel) (by decide +kernel), _, rfl, x, ns, is, tss, v, sh, rfl, hC, hv, fun j ej => ?_, fun e => kb e⟩
    obtain ⟨_, _, _, jl⟩ := seat_some ej
    have il : (is.map V.int).length = is.length := List.length_map _
    refine ⟨_, rfl, x, CC, dx, _, _, rfl, a1, c.cl, c.nG, cf_guests _ _ _ _ _, g, _, rfl, .inr (SqT.of a3), ((is.map V.int).length : Nat), rfl, by omega, by omega, fun D hD => ?_⟩
    refine lc_range (lo := 0) (n := (is.map V.int).length) (fun i G => Same H G ∧ H D = none ∧ G D = some (.lst (((List.range i).filter fun k => decide (k ≠ j)).map fun k : Nat => V.int (k : Nat)))) ⟨new_same hD, hD, upd_same⟩ ?_ ?_
    · rintro i G hi ⟨S, D0, eD⟩
      have bt := butJ_take (j := j) (i := i)
      refine ⟨rfl, _, rfl, _, rfl, rfl, _, rfl, ?_⟩
      by_cases ij : i = j
      · subst ij
        refine if_fa (by simp) ⟨S, D0, ?_⟩
        rw [bt, if_neg (by simp), List.append_nil]
        exact eD
      · refine if_tr (by simp; omega) ⟨_, rfl, _, eD, small1000 ?_, fun a o e => ?_, D0, ?_⟩
        · rw [List.length_map]
          have := List.length_filter_le (fun k => decide (k ≠ j)) (List.range i)
          rw [List.length_range] at this
          omega
        · rw [upd_ne (ne_of_none e D0)]
          exact S _ _ e
        · rw [upd_same, bt, if_pos ij, List.map_append, Int.zero_add]
          rfl
    rintro G ⟨S1, D0, eD⟩
    rw [il] at eD
    have jlt : ∀ i ∈ butJ is.length j, i < is.length := fun i hi => (butJ_mem.mp hi).1
    have jpw := butJ_lt is.length j
    have eD : G D = some (.lst ((butJ is.length j).map fun k : Nat => V.int (k : Nat))) := eD
    have kg := kg j ej
    generalize butJ is.length j = js at jlt jpw eD kg
    have jl := lt_len jpw jlt
    refine ⟨_, rfl, x, dx, _, rfl, S1 _ _ a1, cf_no _ _ _ _ _ (by decide +kernel) (by decide +kernel) (by decide +kernel) (by decide +kernel) (by decide +kernel), _, rfl, D, rfl, ⟨_, SqL.of eD⟩, fun D2 hD2 => ?_⟩
    refine lc_list (K := K) (a := D) (xs := js.map fun j : Nat => V.int (j : Nat)) (fun i G3 => Same G G3 ∧ G D2 = none ∧ G3 D2 = some (.lst ((pickL is (js.take i)).map V.int))) ⟨new_same hD2, hD2, upd_same⟩ (fun i G3 _ ⟨S, _⟩ => SqL.of (S _ _ eD)) ?_ ?_
    · rintro i y G3 hy ⟨S3, E0, eE⟩
      rw [List.getElem?_map] at hy
      cases hi : js[i]? with
      | none => rw [hi] at hy; cases hy
      | some j =>
        rw [hi] at hy
        obtain rfl : V.int (j : Nat) = y := Option.some.inj hy
        have jb := jlt j (List.mem_of_getElem? hi)
        have ej := List.getElem?_eq_getElem jb
        refine ⟨rfl, yesT ?_⟩
        refine ⟨_, rfl, x, CC, dx, _, _, rfl, S3 _ _ (S1 _ _ a1), c.cl, c.nG, cf_guests _ _ _ _ _, _, rfl, g, _, _, _, rfl, rfl, SqT.of (S3 _ _ (S1 _ _ a3)), at_of (j := j) rfl (by rw [List.getElem?_map, ej]; rfl), ?_⟩
        refine ⟨_, eE, small1000 ?_, fun a o e => ?_, E0, ?_⟩
        · rw [List.length_map, pickL_len, List.length_take]
          omega
        · rw [upd_ne (ne_of_none e E0)]
          exact S3 _ _ e
        · rw [upd_same, List.take_add_one, hi]
          unfold pickL
          rw [List.map_append, List.map_append]
          have q : (is[j]?).getD 0 = is[j] := by rw [ej]; rfl
          show _ = some (HO.lst (_ ++ [V.int ((is[j]?).getD 0)]))
          rw [q]
    rintro G3 ⟨S3, E0, eE⟩
    rw [List.length_map, List.take_length] at eE
    have T3 := S1.trans S3
    exact ⟨_, rfl, x, D2, D, ns, is, pickL is js, tss, js, rfl, hC.keep T3, gb, eE, S3 _ _ eD, pickL_len, by omega, pickL_asc a8 jpw jlt, pickL_labs a11 jlt, jlt, lt_nodup jpw, fun H' z S' cz => kg H' z (T3.trans S') cz⟩
end
end J

set_option Elab.async false
set_option linter.all false
set_option maxRecDepth 100000
set_option maxHeartbeats 2000000
/-! ### != of instances whose class has its own __eq__ only -/
namespace J
open PySem PySem.Spec PyProof.Rows L2
section
variable {prog : Program} {w : World} {A : Around} {E : Value → Shared → Prop} {s : Shared} {K : PySem.W.Frag} {x C L f : Addr} {h₀ : Heap} {m : Str → Option Value} {ox : Obj} {od : Option Obj} {b tb : Value}
theorem ifBound_KB {M : Model} {name : Str} {id : String} {args : List Value} {Q : Option Value → Shared → Prop} (X : K.In s.heap) (I : PySem.W.InstAt s.heap x ox C od) (hs : PySem.W.findIn K (.ref C) name = some (some (.builtin id)))
    (hb : ∀ self, bindSpecial (.builtin id) self = pure (.builtin id, [self])) (h : wpAny M A (call (.builtin id) (.ref x :: args)) (fun v => Q (some v)) E s) : wpAny M A (callSpecialIfBound? (.ref x) name args) Q E s := by
  simp only [callSpecialIfBound?, bindSpecialIfBound?]
  refine wpAny_holding (wpAny_bind (wpAny_bind (wpAny_bind (I.type.here ((PySem.W.looks_findIn X hs).here ?_)))))
  refine wpAny_bind (wpAny_askSetting (wpAny_ite ?_))
  have fin : wpAny M A (call (.builtin id) ([.ref x] ++ args) >>= fun v => pure (some v)) Q E s := wpAny_bind (wpAny_mono h (fun v s' h' => wpAny_pure h') fun _ _ h' => h')
  simp only [hb]
  split
  · exact wpAny_bind (wpAny_pure (wpAny_pure (by exact fin)))
  · exact wpAny_tryCatch (wpAny_bind (wpAny_pure (wpAny_pure (by exact fin))))
/-- the body of object.__ne__ over the own __eq__ -/
theorem objNe_own (hu : A.in1.units < cLine) (X : K.In s.heap) (I : PySem.W.InstAt s.heap x ox C od) (hm : PySem.W.mroIn K C (.type "object") = some true) (hs : PySem.W.findIn K (.ref C) "__eq__" = some (some (.ref f))) (hf : PySem.W.isFn K (.ref f) = true) {Q : Value → Shared → Prop}
    (h : wpAny (model prog w) A.in1 (call (.ref f) [.ref x, b]) (fun v s' => ∃ c, v = .bool c ∧ Q (.bool (!c)) s') E s) : wpAny (model prog w) A (call (.builtin "object.__ne__") [.ref x, b]) Q E s := by
  refine wpAny_call (codeAny_call_builtin PySem.F.cmp_object.ne.plain PySem.F.cmpEntry_ne (PySem.W.check_slot (i := "object.__ne__") (owner := "object") (n := "__ne__") PySem.F.cmpKind_ne PySem.F.cmpSplit_ne (I.type.andThen (PySem.W.looks_mroIn X hm)) (PySem.F.cmpArgs_ne _ _) ?_))
  unfold Builtin.«object.__ne__»
  refine wpAny_bind (m := slotArgs "__ne__" 1 _) (wpAny_pure ?_)
  refine wpAny_bind (m := cRoomFor _ _) (wpAny_cRoomFor hu ?_)
  refine wpAny_bind (m := callSpecialIfBound? (.ref x) "__eq__" _) (PySem.W.ifBound_K X I hs hf (wpAny_mono h (fun r s' hr => ?_) fun _ _ y => y))
  obtain ⟨c, rfl, hq⟩ := hr
  exact wpAny_bind (wpAny_truthy_bool (wpAny_pure hq))
theorem cmpNe_K {Q : Value → Shared → Prop} (hu : A.units < cLine) (hu1 : A.in1.units < cLine) (F : PyProof.Rows.Fr h₀ L s.heap m) (X₀ : K.In h₀) (I : PySem.W.InstAt s.heap x ox C od) (hbt : PySem.W.Looks (model prog w) s.heap (typeOf b) tb) (hn : PySem.W.notFirst K C tb = true)
    (hm : PySem.W.mroIn K C (.type "object") = some true) (hne : PySem.W.findIn K (.ref C) "__ne__" = some (some (.builtin "object.__ne__"))) (hs : PySem.W.findIn K (.ref C) "__eq__" = some (some (.ref f))) (hf : PySem.W.isFn K (.ref f) = true)
    (h : wpAny (model prog w) A.in1 (call (.ref f) [.ref x, b]) (fun v s' => ∃ c, v = .bool c ∧ Q (.bool (!c)) s') E s) : wpAny (model prog w) A (richCompare .NotEq (.ref x) b) Q E s := by
  have X := X₀.keeps F.keep
  have one : wpAny (model prog w) A (tryCompare (.ref x) (cmpInfo .NotEq).2.1 b) (fun r s' => ∃ v, r = some v ∧ Q v s') E s := by
    unfold tryCompare
    refine wpAny_bind (ifBound_KB X I hne PySem.F.cmp_object.ne.bind (objNe_own hu1 X I hm hs hf (wpAny_mono h (fun v s' hv => ?_) fun _ _ e => e)))
    obtain ⟨c, rfl, hq⟩ := hv
    exact ⟨c, rfl, wpAny_pure ⟨_, rfl, hq⟩⟩
  unfold richCompare
  simp only [oneThing_ref]
  refine wpAny_holding (wpAny_bind (wpAny_cRoomFor hu ?_))
  refine wpAny_bind (I.type.here (wpAny_bind (hbt.here ?_)))
  split
  · rename_i q
    have e : PySem.W.subIn K tb (.ref C) = some false := by
      rcases Bool.or_eq_true_iff.mp hn with e | e
      · rw [beq_iff_eq.mp e] at q; simp at q
      · exact beq_iff_eq.mp e
    refine wpAny_bind ((PySem.W.looks_subIn X e).here ?_)
    simp only [Bool.false_eq_true, if_false]
    refine wpAny_bind (wpAny_mono one (fun r s' z => ?_) fun _ _ e => e)
    obtain ⟨v, rfl, hq⟩ := z
    exact wpAny_pure hq
  · refine wpAny_bind (wpAny_pure ?_)
    simp only [Bool.false_eq_true, if_false]
    refine wpAny_bind (wpAny_mono one (fun r s' z => ?_) fun _ _ e => e)
    obtain ⟨v, rfl, hq⟩ := z
    exact wpAny_pure hq
end
def rNeOwn (C : Addr) (sp : Sp) (E : XK) : R2 := fun x y H Q => ∃ a b dx fs dy gs, x = .ref a ∧ y = .ref b ∧ H a = some (.ins C dx fs) ∧ H b = some (.ins C dy gs) ∧ sp [x, y] H (fun v H' => ∃ c, v = .bl c ∧ Q (.bl (!c)) H') E
theorem op_neOwn {X : Cx} {n : Nat} {C f : Addr} {fd : FuncData} {ps : List Str} {sp : Sp} {E : XK} (F : FnOk X.prog X.w X.K X.mg X.base CX0 n f fd ps sp)
    (hs : PySem.W.findIn X.K (.ref C) "__eq__" = some (some (.ref f))) (hne : PySem.W.findIn X.K (.ref C) "__ne__" = some (some (.builtin "object.__ne__"))) (hm : PySem.W.mroIn X.K C (.type "object") = some true) (hf : PySem.W.isFn X.K (.ref f) = true) (hb : Binds X.K fd ps []) (hr : Room (n + 1) X.A) : OpR X (compareOp .NotEq) (rNeOwn C sp E) := by
  intro pins s σ H x y v u Q I rx ry ⟨a, b, dx, fs, dy, gs, ex, ey, ha, hy, q⟩
  subst ex
  subst ey
  obtain rfl : v = Value.ref a := rx
  obtain rfl : u = Value.ref b := ry
  show wpAny (model X.prog X.w) X.A (richCompare .NotEq (.ref a) (.ref b)) (EP X pins σ Q) X.xe s
  obtain ⟨mA, J, _⟩ := ins_get I.hok ha
  obtain ⟨od, J, _⟩ := J.look
  obtain ⟨mB, J', _⟩ := ins_get I.hok hy
  obtain ⟨od', J', _⟩ := J'.look
  obtain ⟨m, hF⟩ := I.fr
  have r2 : Vals [V.ref a, V.ref b] [Value.ref a, Value.ref b] := .cons rfl (.cons rfl .nil)
  refine cmpNe_K (tb := .ref C) hr.units0 hr.in1.units0 hF I.ok.mod.kin J J'.type (by simp [PySem.W.notFirst]) hm hne hs hf ?_
  have hl : ([Value.ref a, Value.ref b] : List Value).length = ps.length := by rw [← r2.length]; exact F.len _ _ _ _ q
  refine wpAny_call (codeAny_mono (F.run X.A.in1 X.stack s H ⟨[.ref a, .ref b], []⟩ [.ref a, .ref b] [.ref a, .ref b] _ E hr.in1 I.env0.in1 (by have := hb s [.ref a, .ref b] I.kIn (by rw [List.append_nil]; exact hl); rw [List.append_nil] at this; exact this) r2 q) fun r s' hq => ?_)
  cases r with
  | error e => exact hq.elim
  | ok fl =>
    cases fl with
    | ret u =>
      obtain ⟨v, H', I3, rv, c, ev, q4⟩ := I.after hq
      subst ev
      obtain rfl : u = Value.bool c := rv
      exact ⟨c, rfl, V.bl (!c), H', I3, rfl, q4⟩
    | next => exact hq.elim
    | brk => exact hq.elim
    | cont => exact hq.elim
end J

set_option Elab.async false
set_option linter.all false
set_option maxRecDepth 100000
set_option maxHeartbeats 8000000
namespace J
open PySem PySem.Spec PyProof.Rows L2
/-! ### tables -/
def tabOf (f : Nat → Nat → Int) (n : Nat) : List (List Int) := (List.range n).map fun a => (List.range n).map (f a)
def rowsT (f : Nat → Nat → Int) (n : Nat) : List (List Int) := (List.range n).map fun a => (List.range a).map (f a)
theorem tabOf_len {f : Nat → Nat → Int} {n : Nat} : (tabOf f n).length = n := by simp [tabOf]
theorem rowsT_len {f : Nat → Nat → Int} {n : Nat} : (rowsT f n).length = n := by simp [rowsT]
theorem tabOf_at {f : Nat → Nat → Int} {n a : Nat} (h : a < n) : (tabOf f n)[a]? = some ((List.range n).map (f a)) := by
  unfold tabOf
  rw [List.getElem?_map, List.getElem?_range h]
  rfl
theorem rowsT_at {f : Nat → Nat → Int} {n a : Nat} (h : a < n) : (rowsT f n)[a]? = some ((List.range a).map (f a)) := by
  unfold rowsT
  rw [List.getElem?_map, List.getElem?_range h]
  rfl
theorem tabOf_congr {f g : Nat → Nat → Int} {n : Nat} (h : ∀ a b, a < n → b < n → f a b = g a b) : tabOf f n = tabOf g n := by
  unfold tabOf
  refine List.map_congr_left fun a ha => List.map_congr_left fun b hb => h a b (List.mem_range.mp ha) (List.mem_range.mp hb)
theorem rowsT_congr {f g : Nat → Nat → Int} {n : Nat} (h : ∀ a b, a < n → b < a → f a b = g a b) : rowsT f n = rowsT g n := by
  unfold rowsT
  refine List.map_congr_left fun a ha => List.map_congr_left fun b hb => h a b (List.mem_range.mp ha) (List.mem_range.mp hb)
theorem rowsT_rows {f : Nat → Nat → Int} {n m : Nat} (h : ∀ a b, a < n → b < a → 0 ≤ f a b ∧ f a b < (m : Nat)) : Rows m (rowsT f n) := by
  intro a ts e
  have ha : a < n := by
    have := (List.getElem?_eq_some_iff.mp e).1
    rwa [rowsT_len] at this
  rw [rowsT_at ha] at e
  obtain rfl := Option.some.inj e
  refine ⟨by rw [List.length_map, List.length_range], fun t ht => ?_⟩
  obtain ⟨b, hb, rfl⟩ := List.mem_map.mp ht
  exact h a b ha (List.mem_range.mp hb)
/-- a list of new lists, as it grows at D -/
structure Grow (H H' : Hp) (D : Addr) (qs : List Addr) (tss : List (List Int)) : Prop where
  S : Same H H'
  n : H D = none
  L : LinesAt H' D qs tss
  f : ∀ q ∈ qs, H q = none
theorem Grow.nil {H : Hp} {D : Addr} (hD : H D = none) : Grow H (upd H D (.lst [])) D [] [] := ⟨new_same hD, hD, ⟨upd_same, rfl, fun j a ts e => by simp at e⟩, fun q hq => nomatch hq⟩
theorem lines_snoc {H H2 : Hp} {D z : Addr} {qs : List Addr} {tss : List (List Int)} {ts : List Int} (L : LinesAt H D qs tss) (keep : ∀ (a : Addr) (us : List Int), a ∈ qs → H a = some (.lst (us.map V.int)) → H2 a = some (.lst (us.map V.int))) (ez : H2 z = some (.lst (ts.map V.int))) (zD : z ≠ D) : LinesAt (upd H2 D (.lst (qs.map V.ref ++ [.ref z]))) D (qs ++ [z]) (tss ++ [ts]) := by
  refine ⟨by rw [upd_same, List.map_append]; rfl, by rw [List.length_append, List.length_append, L.2.1]; rfl, fun i a us e1 e2 => ?_⟩
  rcases Nat.lt_or_ge i qs.length with q | q
  · rw [List.getElem?_append_left q] at e1
    rw [List.getElem?_append_left (by have := L.2.1; omega)] at e2
    obtain ⟨n1, e3⟩ := L.2.2 i a us e1 e2
    exact ⟨n1, by rw [upd_ne n1]; exact keep a us (List.mem_of_getElem? e1) e3⟩
  · have hi : i = qs.length := by
      have := (List.getElem?_eq_some_iff.mp e1).1
      rw [List.length_append] at this
      have l : [z].length = 1 := rfl
      omega
    subst hi
    rw [List.getElem?_append_right (Nat.le_refl _), Nat.sub_self] at e1
    rw [L.2.1, List.getElem?_append_right (Nat.le_refl _), Nat.sub_self] at e2
    obtain rfl : z = a := Option.some.inj e1
    obtain rfl : ts = us := Option.some.inj e2
    exact ⟨zD, by rw [upd_ne zD]; exact ez⟩
theorem Grow.snoc {H H1 H2 : Hp} {D z : Addr} {qs : List Addr} {tss : List (List Int)} {ts : List Int} (g : Grow H H1 D qs tss) (S : Same H1 H2) (hz : H1 z = none) (ez : H2 z = some (.lst (ts.map V.int))) : Grow H (upd H2 D (.lst (qs.map V.ref ++ [.ref z]))) D (qs ++ [z]) (tss ++ [ts]) := by
  have zD : z ≠ D := (ne_of_none g.L.1 hz).symm
  refine ⟨fun b o e => ?_, g.n, lines_snoc g.L (fun a us _ e => S _ _ e) ez zD, fun q hq => ?_⟩
  · rw [upd_ne (ne_of_none e g.n)]
    exact S _ _ (g.S _ _ e)
  · rcases List.mem_append.mp hq with hq | hq
    · exact g.f q hq
    · rw [List.mem_singleton] at hq
      rw [hq]
      exact g.S.free hz
theorem Grow.keep {H H' H2 : Hp} {D : Addr} {qs : List Addr} {tss : List (List Int)} (g : Grow H H' D qs tss) (S : Same H' H2) : Grow H H2 D qs tss := ⟨g.S.trans S, g.n, g.L.keep S, g.f⟩
abbrev s_Lpart : Stmt := top 28
theorem sc_Lpart : FnScope ["_law_table", "_law_places", "_law_i", "_law_j"] ["_law_table", "_law_places"] (defScope s_Lpart) := ⟨rfl, rfl, rfl, by decide +kernel, rfl, by decide +kernel, by decide +kernel⟩
abbrev s_Lrows : Stmt := top 29
theorem sc_Lrows : FnScope ["_law_table", "_law_j"] ["_law_table"] (defScope s_Lrows) := ⟨rfl, rfl, rfl, by decide +kernel, rfl, by decide +kernel, by decide +kernel⟩
abbrev s_Lcompany : Stmt := top 30
theorem sc_Lcompany : FnScope ["_law_backs_here", "_law_labels_here", "_law_table"] ["_law_backs_here", "_law_labels_here", "_law_table"] (defScope s_Lcompany) := ⟨rfl, rfl, rfl, by decide +kernel, rfl, by decide +kernel, by decide +kernel⟩
abbrev s_Ltable_of : Stmt := top 31
theorem sc_Ltable_of : FnScope ["_law_backs_here", "_law_rows_here", "_law_table", "_law_j", "_law_i"] ["_law_backs_here", "_law_rows_here"] (defScope s_Ltable_of) := ⟨rfl, rfl, rfl, by decide +kernel, rfl, by decide +kernel, by decide +kernel⟩
def spLPart : Sp := fun vs H Q _ => ∃ (T pl : Addr) (ps : List Addr) (f : Nat → Nat → Int) (n : Nat) (js : List Nat), vs = [.ref T, .ref pl] ∧ LinesAt H T ps (tabOf f n) ∧ H pl = some (.lst (js.map fun j : Nat => V.int (j : Nat))) ∧ js.length ≤ 100 ∧ (∀ j ∈ js, j < n) ∧
  ∀ (H' : Hp) (D : Addr) (qs : List Addr), Grow H H' D qs (tabOf (fun a b => f ((js[a]?).getD 0) ((js[b]?).getD 0)) js.length) → Q (.ref D) H'
def spLRows : Sp := fun vs H Q _ => ∃ (T : Addr) (ps : List Addr) (f : Nat → Nat → Int) (n : Nat), vs = [.ref T] ∧ LinesAt H T ps (tabOf f n) ∧ n ≤ 100 ∧ ∀ (H' : Hp) (D : Addr) (qs : List Addr), Grow H H' D qs (rowsT f n) → Q (.ref D) H'
def spLComp (C CC : Addr) : Sp := fun vs H Q _ => ∃ (bk la T : Addr) (ps : List Addr) (f : Nat → Nat → Int) (ns is : List Int), vs = [.ref bk, .ref la, .ref T] ∧ H bk = some (.lst (ns.map V.int)) ∧ GoodB ns ∧ H la = some (.lst (is.map V.int)) ∧ Asc is ∧ (∀ n ∈ is, 0 ≤ n ∧ n ≤ 1000000000) ∧ is.length ≤ 60 ∧ LinesAt H T ps (tabOf f is.length) ∧
  (∀ a b, a < is.length → b < a → 0 ≤ f a b ∧ f a b < (ns.length : Nat)) ∧ ∀ (H' : Hp) (x : Addr), Same H H' → CompAt C CC H' x ns is (rowsT f is.length) → Q (.ref x) H'
/-- the ties of a company as a table -/
def tieF (ns : List Int) (tss : List (List Int)) (a b : Nat) : Int := if b = a then -1 else cellI ns tss a b
def spLTab : Sp := fun vs H Q _ => ∃ (bk r : Addr) (ps : List Addr) (ns : List Int) (tss : List (List Int)), vs = [.ref bk, .ref r] ∧ H bk = some (.lst (ns.map V.int)) ∧ LinesAt H r ps tss ∧ Rows ns.length tss ∧ GoodB ns ∧ tss.length ≤ 60 ∧ ∀ (H' : Hp) (D : Addr) (qs : List Addr), Grow H H' D qs (tabOf (tieF ns tss) tss.length) → Q (.ref D) H'
section
variable {P : Program} {w : World} {K : PySem.W.Frag} {mg : Str → Option Value} {base : Heap}
theorem ok_Lpart {f : Addr} {fd : FuncData} (F : Fun K "_law_part" "_law_part" s_Lpart f fd) : FnOk P w K mg base CX0 1 f fd ["_law_table", "_law_places"] spLPart := by
  refine F.ok sc_Lpart (fun vs H Q E h => ?_) (fun cdv A outer s H vs Q E hr h => ?_)
  · obtain ⟨T, pl, ps, f, n, js, rfl, _⟩ := h
    rfl
  · obtain ⟨T, pl, ps, f, n, js, rfl, L, epl, j100, jlt, k⟩ := h
    refine ⟨_, (pss_one 
  (ps_ret (pe_lc (own := [("_law_i", 2)]) (g := gName 2) (by rfl) sc_Lpart.nd (pi_list (pv 1)) (blkOk_by (own := [("_law_i", 2)]) (N := ["_law_table", "_law_places", "_law_i", "_law_j"]) (sc := defScope s_Lpart) (by decide +kernel)) (fun _ _ _ _ _ => pg_name (i := 2) sc_Lpart.nd rfl (Or.inr rfl)) (fun _ _ _ _ _ => pts_nil) (fun _ _ _ _ _ => (pe_lc (wi := iList K (tVar 1)) (own := [("_law_j", 3)]) (g := gName 3) (by rfl) sc_Lpart.nd (pi_list (pv 1)) (blkOk_by (own := [("_law_j", 3)]) (N := ["_law_table", "_law_places", "_law_i", "_law_j"]) (by rfl)) (fun _ _ _ _ _ => pg_name (i := 3) sc_Lpart.nd rfl (Or.inl rfl)) (fun _ _ _ _ _ => pts_nil) (fun _ _ _ _ _ => (pe_ix (r := rIxL K) ix_list (pe_ix (r := rIxL K) ix_list (pv 0) (pv 2) (fun _ _ => rfl)) (pv 3) (fun _ _ => rfl)))))))), ?_⟩
    have jl : (js.map fun j : Nat => V.int (j : Nat)).length = js.length := List.length_map _
    have pl2 := L.2.1
    rw [tabOf_len] at pl2
    refine ⟨_, rfl, pl, rfl, ⟨_, SqL.of epl⟩, fun D hD => ?_⟩
    refine lc_list (K := K) (a := pl) (xs := js.map fun j : Nat => V.int (j : Nat)) (fun i G => ∃ qs, qs.length = i ∧ Grow H G D qs ((tabOf (fun a b => f ((js[a]?).getD 0) ((js[b]?).getD 0)) js.length).take i)) ⟨[], rfl, by rw [List.take_zero]; exact .nil hD⟩ (fun i G _ ⟨_, _, g⟩ => SqL.of (g.S _ _ epl)) ?_ ?_
    · rintro i y G hy ⟨qs, ql, g⟩
      have hi : i < js.length := by
        have := (List.getElem?_eq_some_iff.mp hy).1
        rwa [jl] at this
      have ei := List.getElem?_eq_getElem hi
      rw [List.getElem?_map, ei] at hy
      obtain rfl : V.int (js[i] : Nat) = y := Option.some.inj hy
      have ib := jlt _ (List.mem_of_getElem? ei)
      have id0 : (js[i]?).getD 0 = js[i] := by rw [ei]; rfl
      generalize js[i] = ji at ei ib id0
      have ep := List.getElem?_eq_getElem (l := ps) (i := ji) (by omega)
      generalize ps[ji]'(by omega) = pj at ep
      obtain ⟨_, row⟩ := L.2.2 ji pj _ ep (tabOf_at ib)
      refine ⟨rfl, yesT ?_⟩
      refine ⟨_, rfl, pl, rfl, ⟨_, SqL.of (g.S _ _ epl)⟩, fun D2 hD2 => ?_⟩
      refine lc_list (K := K) (a := pl) (xs := js.map fun j : Nat => V.int (j : Nat)) (fun m G2 => Same G G2 ∧ G D2 = none ∧ G2 D2 = some (.lst (((List.range m).map fun b => f ji ((js[b]?).getD 0)).map V.int))) ⟨new_same hD2, hD2, upd_same⟩ (fun m G2 _ ⟨S, _⟩ => SqL.of (S _ _ (g.S _ _ epl))) ?_ ?_
      · rintro m y G2 hy ⟨S2, E0, eE⟩
        have hm : m < js.length := by
          have := (List.getElem?_eq_some_iff.mp hy).1
          rwa [jl] at this
        have em := List.getElem?_eq_getElem hm
        rw [List.getElem?_map, em] at hy
        obtain rfl : V.int (js[m] : Nat) = y := Option.some.inj hy
        have mb := jlt _ (List.mem_of_getElem? em)
        have md0 : (js[m]?).getD 0 = js[m] := by rw [em]; rfl
        generalize js[m] = jm at em mb md0
        have S02 := g.S.trans S2
        refine ⟨rfl, yesT ?_⟩
        refine ⟨_, rfl, _, rfl, T, _, _, _, rfl, rfl, SqL.of (S02 _ _ L.1), at_of (j := ji) (v := .ref pj) rfl (by rw [List.getElem?_map, ep]; rfl), _, rfl, pj, _, _, _, rfl, rfl, SqL.of (S02 _ _ row), at_of (j := jm) (v := .int (f ji jm)) rfl (by rw [List.getElem?_map, List.getElem?_map, List.getElem?_range mb]; rfl), ?_⟩
        refine ⟨_, eE, small1000 (by rw [List.length_map, List.length_map, List.length_range]; omega), fun a o e => ?_, E0, ?_⟩
        · rw [upd_ne (ne_of_none e E0)]
          exact S2 _ _ e
        · rw [upd_same, List.range_succ, List.map_append, List.map_append]
          show _ = some (HO.lst (_ ++ [V.int (f ji ((js[m]?).getD 0))]))
          rw [md0]
      rintro G2 ⟨S2, E0, eE⟩
      rw [jl] at eE
      have eD := S2 _ _ g.L.1
      refine ⟨_, eD, small1000 (by rw [List.length_map]; omega), qs ++ [D2], by rw [List.length_append, ql]; rfl, ?_⟩
      have tk : (tabOf (fun a b => f ((js[a]?).getD 0) ((js[b]?).getD 0)) js.length).take (i + 1) = (tabOf (fun a b => f ((js[a]?).getD 0) ((js[b]?).getD 0)) js.length).take i ++ [(List.range js.length).map fun b => f ji ((js[b]?).getD 0)] := by
        rw [List.take_add_one, tabOf_at hi, id0]
        rfl
      rw [tk]
      exact g.snoc S2 hD2 eE
    · rintro G ⟨qs, ql, g⟩
      rw [jl, List.take_of_length_le (by rw [tabOf_len]; exact Nat.le_refl _)] at g
      exact k G D qs g
theorem ok_Lrows {f : Addr} {fd : FuncData} (F : Fun K "_law_rows" "_law_rows" s_Lrows f fd) (nl : mg "len" = none) (nr : mg "range" = none) (nli : mg "list" = none) : FnOk P w K mg base CX0 1 f fd ["_law_table"] spLRows := by
  refine F.ok sc_Lrows (fun vs H Q E h => ?_) (fun cdv A outer s H vs Q E hr h => ?_)
  · obtain ⟨T, ps, f, n, rfl, _⟩ := h
    rfl
  · obtain ⟨T, ps, f, n, rfl, L, n100, k⟩ := h
    refine ⟨_, (pss_one 
  (ps_ret (pe_lc (own := [("_law_j", 1)]) (g := gName 1) (by rfl) sc_Lrows.nd (pi_range1 (by rfl) nr (pa_cons (pe_callB call_len_seq (by rfl) nl PySem.boot_len (pa_cons (pv 0) pa_nil)) pa_nil)) (blkOk_by (own := [("_law_j", 1)]) (N := ["_law_table", "_law_j"]) (sc := defScope s_Lrows) (by decide +kernel)) (fun _ _ _ _ _ => pg_name (i := 1) sc_Lrows.nd rfl (Or.inl rfl)) (fun _ _ _ _ _ => pts_nil) (fun _ _ _ _ _ => (pe_callTy (T := "list") (r := fun xs H Q => ∃ p ys, xs = [.ref p] ∧ (SqL K H p ys ∨ SqT K H p ys) ∧ ∀ l, H l = none → Q (.ref l) (upd H l (.lst ys))) call_list_of (by rfl) nli (by decide +kernel) (pa_cons (pe_slice (r := rSlL K) sl_list (pe_ix (r := rIxL K) ix_list (pv 0) (pv 1) (fun _ _ => rfl)) po_none (po_some (pv 1))) pa_nil)))))), ?_⟩
    have pl2 := L.2.1
    rw [tabOf_len] at pl2
    have lm : (ps.map V.ref).length = n := by rw [List.length_map, pl2]
    refine ⟨_, rfl, T, _, rfl, .inl (SqL.of L.1), ((ps.map V.ref).length : Nat), rfl, by omega, by omega, fun D hD => ?_⟩
    refine lc_range (lo := 0) (n := (ps.map V.ref).length) (fun i G => ∃ qs, qs.length = i ∧ Grow H G D qs ((rowsT f n).take i)) ⟨[], rfl, by rw [List.take_zero]; exact .nil hD⟩ ?_ ?_
    · rintro i G hi ⟨qs, ql, g⟩
      rw [lm] at hi
      have ep := List.getElem?_eq_getElem (l := ps) (i := i) (by omega)
      generalize ps[i]'(by omega) = pj at ep
      obtain ⟨_, row⟩ := L.2.2 i pj _ ep (tabOf_at hi)
      refine ⟨rfl, yesT ?_⟩
      have rl : (((List.range n).map (f i)).map V.int).length = n := by rw [List.length_map, List.length_map, List.length_range]
      refine ⟨_, rfl, _, rfl, T, _, _, _, rfl, rfl, SqL.of (g.S _ _ L.1), at_of (j := i) (v := .ref pj) (by omega) (by rw [List.getElem?_map, ep]; rfl), _, rfl, _, rfl, pj, _, rfl, SqL.of (g.S _ _ row), fun q hq => ?_⟩
      rw [Int.zero_add, cut_take (by rw [rl]; omega)]
      have S2 := new_same (o := .lst ((((List.range n).map (f i)).map V.int).take i)) hq
      have eq2 : (upd G q (.lst ((((List.range n).map (f i)).map V.int).take i))) q = some (.lst ((((List.range n).map (f i)).map V.int).take i)) := upd_same
      generalize upd G q (.lst ((((List.range n).map (f i)).map V.int).take i)) = G2 at S2 eq2
      refine ⟨q, _, rfl, .inl (SqL.of eq2), fun z hz => ?_⟩
      have cut : (((List.range n).map (f i)).map V.int).take i = ((List.range i).map (f i)).map V.int := by
        rw [← List.map_take, ← List.map_take, List.take_range, Nat.min_eq_left (by omega)]
      rw [cut]
      have eD := S2 _ _ g.L.1
      have S3 := new_same (o := .lst (((List.range i).map (f i)).map V.int)) hz
      refine ⟨_, S3 _ _ eD, small1000 (by rw [List.length_map]; omega), qs ++ [z], by rw [List.length_append, ql]; rfl, ?_⟩
      have tk : (rowsT f n).take (i + 1) = (rowsT f n).take i ++ [(List.range i).map (f i)] := by
        rw [List.take_add_one, rowsT_at hi]
        rfl
      rw [tk]
      exact g.snoc (S2.trans S3) (S2.free hz) upd_same
    · rintro G ⟨qs, ql, g⟩
      rw [lm, List.take_of_length_le (by rw [rowsT_len]; exact Nat.le_refl _)] at g
      exact k G D qs g
theorem ok_Lcompany {f fR fI fJ C CC CB CE : Addr} {fd fdR fdI fdJ : FuncData} (F : Fun K "_law_company" "_law_company" s_Lcompany f fd) (GR : Cal P w K mg base CX0 1 "_law_rows" fR fdR ["_law_table"] spLRows)
    (mT : mg "Ties" = some (.ref C)) (mC : mg "Company" = some (.ref CC)) (MI : Mk K C fI) (FI : FnOk P w K mg base (L2.CX P w) 4 fI fdI ["self", "backs"] (spTies C CB)) (bI : Binds K fdI ["self", "backs"] [])
    (MJ : Mk K CC fJ) (FJ : FnOk P w K mg base (L2.CX P w) 5 fJ fdJ ["self", "ties", "guests", "rows"] (spCompI C CC CE)) (bJ : Binds K fdJ ["self", "ties", "guests", "rows"] []) : FnOk P w K mg base CX0 7 f fd ["_law_backs_here", "_law_labels_here", "_law_table"] (spLComp C CC) := by
  refine F.ok sc_Lcompany (fun vs H Q E h => ?_) (fun cdv A outer s H vs Q E hr h => ?_)
  · obtain ⟨bk, la, T, ps, f, ns, is, rfl, _⟩ := h
    rfl
  · obtain ⟨bk, la, T, ps, f, ns, is, rfl, ebk, gb, ela, asc, labs, i60, L, fr, k⟩ := h
    have hr5 : Room 5 _ := hr.mono (by decide)
    refine ⟨_, (pss_one 
  (ps_ret (pe_make MJ FJ hr rfl mC bJ .nil passL (pa_cons (pe_make MI FI hr5 rfl mT bI .nil passL (pa_cons (pv 0) pa_nil)) (pa_cons (pv 1) (pa_cons (pcal GR hr pass0 (pa_cons (pv 2) pa_nil)) pa_nil)))))), ?_⟩
    refine ⟨_, rfl, mk_ties (s := .lst (ns.map V.int)) ⟨bk, rfl, ebk⟩ gb rfl rfl fun H1 t S1 nt TT => ⟨rfl, _, rfl, _, rfl, T, ps, f, is.length, rfl, L.keep S1, by omega, fun H2 D qs g => ?_⟩⟩
    have L2 := g.L
    refine mk_comp (sg := .lst (is.map V.int)) (sr := .lst (qs.map V.ref)) (ss := shL (rowsT f is.length)) (TT.keep g.S) ⟨la, rfl, g.S _ _ (S1 _ _ ela)⟩ ⟨D, rfl, L2.1⟩ L2.sh rfl rfl rfl (shL_rows _) rowsT_len i60 asc labs (rowsT_rows fr) fun H3 x S3 nx cC => ⟨rfl, k H3 x ((S1.trans g.S).trans S3) cC⟩
end
end J

set_option Elab.async false
set_option linter.all false
set_option maxRecDepth 100000
set_option maxHeartbeats 8000000
namespace J
open PySem PySem.Spec PyProof.Rows L2
section
variable {P : Program} {w : World} {K : PySem.W.Frag} {mg : Str → Option Value} {base : Heap}
theorem ok_Ltable_of {f : Addr} {fd : FuncData} (F : Fun K "_law_table_of" "_law_table_of" s_Ltable_of f fd) (nl : mg "len" = none) (nr : mg "range" = none) : FnOk P w K mg base CX0 1 f fd ["_law_backs_here", "_law_rows_here"] spLTab := by
  refine F.ok sc_Ltable_of (fun vs H Q E h => ?_) (fun cdv A outer s H vs Q E hr h => ?_)
  · obtain ⟨bk, r, ps, ns, tss, rfl, _⟩ := h
    rfl
  · obtain ⟨bk, r, ps, ns, tss, rfl, ebk, L, R, gb, l60, k⟩ := h
    refine ⟨_, (pss_cons 
  (ps_set (i := 2) sc_Ltable_of.nd rfl (Or.inl rfl) (pe_lst pa_nil)) (pss_cons 
  (ps_for PassesOwn.never rfl (pi_range1 (by rfl) nr (pa_cons (pe_callB call_len_seq (by rfl) nl PySem.boot_len (pa_cons (pv 1) pa_nil)) pa_nil)) (pg_name (i := 3) sc_Ltable_of.nd rfl (Or.inr rfl)) (pss_one 
    (ps_expr (pe_bm PySem.F.plainAttrs_list PySem.F.slot_list_append PySem.F.type_list_append mt_append (pv 2) (pa_cons (pe_lc (own := [("_law_i", 4)]) (g := gName 4) (by rfl) sc_Ltable_of.nd (pi_range1 (by rfl) nr (pa_cons (pe_callB call_len_seq (by rfl) nl PySem.boot_len (pa_cons (pv 1) pa_nil)) pa_nil)) (blkOk_by (own := [("_law_i", 4)]) (N := ["_law_backs_here", "_law_rows_here", "_law_table", "_law_j", "_law_i"]) (sc := defScope s_Ltable_of) (by decide +kernel)) (fun _ _ _ _ _ => pg_name (i := 4) sc_Ltable_of.nd rfl (Or.inl rfl)) (fun _ _ _ _ _ => pts_nil) (fun _ _ _ _ _ => (pe_ifExp (pt_cmpR op_gt (pv 4) (pv 3) (nomark _)) (pe_ix (r := rIxL K) ix_list (pv 0) (pe_ix (r := rIxL K) ix_list (pe_ix (r := rIxL K) ix_list (pv 1) (pv 4) (fun _ _ => rfl)) (pv 3) (fun _ _ => rfl)) (fun _ _ => rfl)) (pe_ifExp (pt_cmpR op_lt (pv 4) (pv 3) (nomark _)) (pe_ix (r := rIxL K) ix_list (pe_ix (r := rIxL K) ix_list (pv 1) (pv 3) (fun _ _ => rfl)) (pv 4) (fun _ _ => rfl)) (pe_un un_neg pe_int))))) pa_nil))))) (pss_one 
  (ps_ret (pv 2))))), ?_⟩
    have pl2 := L.2.1
    have lm : (ps.map V.ref).length = tss.length := by rw [List.length_map, pl2]
    have bl : (ns.map V.int).length = ns.length := List.length_map _
    have row : ∀ {a : Nat} (h : a < tss.length), ∃ (p : Addr) (ts : List Int), ps[a]? = some p ∧ tss[a]? = some ts ∧ H p = some (.lst (ts.map V.int)) ∧ ts.length = a ∧ ∀ t ∈ ts, 0 ≤ t ∧ t < (ns.length : Nat) := fun {a} h => by
      have e1 := List.getElem?_eq_getElem (l := ps) (i := a) (by omega)
      have e2 := List.getElem?_eq_getElem h
      obtain ⟨r1, r2⟩ := R a _ e2
      exact ⟨_, _, e1, e2, (L.2.2 a _ _ e1 e2).2, r1, r2⟩
    refine ⟨Nat.zero_le _, fun D hD => ?_⟩
    refine ⟨_, rfl, r, _, rfl, .inl (SqL.of (new_same hD _ _ L.1)), ((ps.map V.ref).length : Nat), rfl, by omega, by omega, for_range (lo := 0) (n := (ps.map V.ref).length) (fun i σ G => ∃ v3 v4 qs, σ = [some (.ref bk), some (.ref r), some (.ref D), v3, v4] ∧ qs.length = i ∧ Grow H G D qs ((tabOf (tieF ns tss) tss.length).take i)) ⟨none, none, [], rfl, rfl, by rw [List.take_zero]; exact .nil hD⟩ ?_ ?_⟩
    · rintro i σ G hi ⟨v3, v4, qs, rfl, ql, g⟩
      rw [lm] at hi
      obtain ⟨pi, ti, epi, eti, hpi, til, tir⟩ := row hi
      refine ⟨_, rfl, .inl ⟨rfl, _, SqL.of g.L.1⟩, _, rfl, r, _, rfl, .inl (SqL.of (g.S _ _ L.1)), ((ps.map V.ref).length : Nat), rfl, by omega, by omega, fun D2 hD2 => ?_⟩
      refine lc_range (lo := 0) (n := (ps.map V.ref).length) (fun m G2 => Same G G2 ∧ G D2 = none ∧ G2 D2 = some (.lst (((List.range m).map (tieF ns tss i)).map V.int))) ⟨new_same hD2, hD2, upd_same⟩ ?_ ?_
      · rintro m G2 hm ⟨S2, E0, eE⟩
        rw [lm] at hm
        have S02 := g.S.trans S2
        have fin : ∀ v : V, v = .int (tieF ns tss i m) → ∃ acc, G2 D2 = some (.lst acc) ∧ acc.length < sizeLine ∧ (Same G (upd G2 D2 (.lst (acc ++ [v]))) ∧ G D2 = none ∧ (upd G2 D2 (.lst (acc ++ [v]))) D2 = some (.lst (((List.range (m + 1)).map (tieF ns tss i)).map V.int))) := by
          rintro v rfl
          refine ⟨_, eE, small1000 (by rw [List.length_map, List.length_map, List.length_range]; omega), fun a o e => ?_, E0, ?_⟩
          · rw [upd_ne (ne_of_none e E0)]
            exact S2 _ _ e
          · rw [upd_same, List.range_succ, List.map_append, List.map_append]
            rfl
        refine ⟨rfl, yesT ?_⟩
        refine ⟨_, rfl, _, rfl, _, _, rfl, rfl, _, rfl, ifD (fun c1 => ?_) (fun c1 => ?_)⟩
        · have lt : i < m := by omega
          obtain ⟨pm, tm, epm, etm, hpm, tml, tmr⟩ := row hm
          have et := List.getElem?_eq_getElem (l := tm) (i := i) (by omega)
          have tr := tmr _ (List.mem_of_getElem? et)
          generalize hx : tm[i]'(by omega) = tx at et tr
          have en := List.getElem?_eq_getElem (l := ns) (i := tx.toNat) (by omega)
          refine ⟨_, rfl, _, rfl, _, rfl, r, _, _, _, rfl, rfl, SqL.of (S02 _ _ L.1), at_of (j := m) (v := .ref pm) (by omega) (by rw [List.getElem?_map, epm]; rfl), _, rfl, pm, _, _, _, rfl, rfl, SqL.of (S02 _ _ hpm), at_of (j := i) (v := .int tx) (by omega) (by rw [List.getElem?_map, et]; rfl), bk, _, _, _, rfl, rfl, SqL.of (S02 _ _ ebk), at_of (j := tx.toNat) (v := .int (ns[tx.toNat]'(by omega))) (Int.toNat_of_nonneg tr.1).symm (by rw [List.getElem?_map, en]; rfl), ?_⟩
          refine fin _ ?_
          unfold tieF cellI
          rw [if_neg (by omega), if_neg (by omega), etm]
          show _ = V.int (ns[((tm[i]?).getD 0).toNat]?.getD 0)
          rw [et]
          show _ = V.int (ns[tx.toNat]?.getD 0)
          rw [en]
          rfl
        · refine ⟨_, rfl, _, rfl, _, _, rfl, rfl, _, rfl, ifD (fun c2 => ?_) (fun c2 => ?_)⟩
          · have lt : m < i := by omega
            have et := List.getElem?_eq_getElem (l := ti) (i := m) (by omega)
            refine ⟨_, rfl, _, rfl, r, _, _, _, rfl, rfl, SqL.of (S02 _ _ L.1), at_of (j := i) (v := .ref pi) (by omega) (by rw [List.getElem?_map, epi]; rfl), _, rfl, pi, _, _, _, rfl, rfl, SqL.of (S02 _ _ hpi), at_of (j := m) (v := .int (ti[m]'(by omega))) (by omega) (by rw [List.getElem?_map, et]; rfl), ?_⟩
            refine fin _ ?_
            unfold tieF cellI
            rw [if_neg (by omega), if_pos lt, eti]
            show _ = V.int ((ti[m]?).getD 0)
            rw [et]
            rfl
          · have eq : m = i := by omega
            refine ⟨_, rfl, fin _ ?_⟩
            unfold tieF
            rw [if_pos eq]
      rintro G2 ⟨S2, E0, eE⟩
      rw [lm] at eE
      have eD := S2 _ _ g.L.1
      refine ⟨D, _, _, rfl, rfl, eD, small1000 (by rw [List.length_map]; omega), _, _, qs ++ [D2], rfl, by rw [List.length_append, ql]; rfl, ?_⟩
      have tk : (tabOf (tieF ns tss) tss.length).take (i + 1) = (tabOf (tieF ns tss) tss.length).take i ++ [(List.range tss.length).map (tieF ns tss i)] := by
        rw [List.take_add_one, tabOf_at hi]
        rfl
      rw [tk]
      exact g.snoc S2 hD2 eE
    · rintro σ G ⟨v3, v4, qs, rfl, ql, g⟩
      rw [lm, List.take_of_length_le (by rw [tabOf_len]; exact Nat.le_refl _)] at g
      exact ⟨_, rfl, k G D qs g⟩
end
end J

set_option Elab.async false
set_option linter.all false
set_option maxRecDepth 100000
set_option maxHeartbeats 8000000
namespace J
open PySem PySem.Spec PyProof.Rows L2
theorem lt_ext {js ks : List Nat} (h1 : js.Pairwise (· < ·)) (h2 : ks.Pairwise (· < ·)) (h : ∀ j, j ∈ js ↔ j ∈ ks) : js = ks := by
  have p : js.Perm ks := (List.perm_ext_iff_of_nodup (lt_nodup h1) (lt_nodup h2)).mpr h
  exact p.eq_of_pairwise (fun x y _ _ a b => by omega) h1 h2
theorem butJ_skip {n j : Nat} (h : j < n) : butJ n j = (List.range (n - 1)).map fun b => if b < j then b else b + 1 := by
  refine lt_ext (butJ_lt n j) ?_ fun i => ?_
  · rw [List.pairwise_map]
    refine List.Pairwise.imp (fun {a b} q => ?_) List.pairwise_lt_range
    split <;> split <;> omega
  · rw [butJ_mem, List.mem_map]
    constructor
    · rintro ⟨q1, q2⟩
      by_cases c : i < j
      · exact ⟨i, List.mem_range.mpr (by omega), if_pos c⟩
      · exact ⟨i - 1, List.mem_range.mpr (by omega), by rw [if_neg (by omega)]; omega⟩
    · rintro ⟨b, hb, rfl⟩
      rw [List.mem_range] at hb
      split <;> omega
abbrev s_Lis : Stmt := top 32
theorem sc_Lis : FnScope ["_law_company_here", "_law_backs_here", "_law_labels_here", "_law_table", "_law_j", "_law_row", "_law_i"] ["_law_company_here", "_law_backs_here", "_law_labels_here", "_law_table"] (defScope s_Lis) := ⟨rfl, rfl, rfl, by decide +kernel, rfl, by decide +kernel, by decide +kernel⟩
def spLIs (C CC : Addr) : Sp := fun vs H Q _ => ∃ (x bk la T : Addr) (ps : List Addr) (f : Nat → Nat → Int) (ns is : List Int) (tss : List (List Int)), vs = [.ref x, .ref bk, .ref la, .ref T] ∧ CompAt C CC H x ns is tss ∧ GoodB ns ∧ H bk = some (.lst (ns.map V.int)) ∧ H la = some (.lst (is.map V.int)) ∧ LinesAt H T ps (tabOf f is.length) ∧
  (∀ a b, a < is.length → b < is.length → a ≠ b → f a b = cellI ns tss a b) ∧ ∀ H', Same H H' → Q (.bl true) H'
theorem CompAt.rows {C CC : Addr} {H : Hp} {x : Addr} {ns is : List Int} {tss : List (List Int)} (h : CompAt C CC H x ns is tss) : Rows ns.length tss := by
  obtain ⟨dx, t, g, r, b, p, ps, kvs, a1, a2, a3, a4, _⟩ := h
  intro j ts et
  have hj := (List.getElem?_eq_some_iff.mp et).1
  have ep := List.getElem?_eq_getElem (l := ps) (i := j) (by have := a4.2.1; omega)
  exact (a4.2.2 j _ ts ep et).2
theorem rowsT_cell {ns : List Int} {tss : List (List Int)} {f : Nat → Nat → Int} (R : Rows ns.length tss) (h : ∀ a b, a < tss.length → b < a → f a b = cellI ns tss a b) : rowsT f tss.length = tss := by
  refine List.ext_getElem? fun a => ?_
  rcases Nat.lt_or_ge a tss.length with ha | ha
  · have ea := List.getElem?_eq_getElem ha
    obtain ⟨r1, _⟩ := R a _ ea
    rw [rowsT_at ha, ea]
    congr 1
    refine List.ext_getElem (by rw [List.length_map, List.length_range, r1]) fun b h1 h2 => ?_
    rw [List.length_map, List.length_range] at h1
    rw [List.getElem_map, List.getElem_range, h a b ha h1]
    unfold cellI
    rw [if_pos h1, ea]
    show ((tss[a])[b]?).getD 0 = _
    rw [List.getElem?_eq_getElem h2]
    rfl
  · rw [List.getElem?_eq_none (by rw [rowsT_len]; exact ha), List.getElem?_eq_none ha]
theorem rowOf_ints {ns is : List Int} {tss : List (List Int)} {f : Nat → Nat → Int} {j : Nat} {ys : List V} (gb : GoodB ns) (R : Rows ns.length tss) (tl : tss.length = is.length) (hj : j < is.length) (ro : RowOf ns tss is.length j ys) (h : ∀ a b, a < is.length → b < is.length → a ≠ b → f a b = cellI ns tss a b) :
    ys = ((butJ is.length j).map (f j)).map V.int := by
  obtain ⟨r1, r2⟩ := ro
  rw [butJ_skip hj]
  refine List.ext_getElem? fun b => ?_
  rcases Nat.lt_or_ge b (is.length - 1) with hb | hb
  · rw [r2 b (by omega), List.getElem?_map, List.getElem?_map, List.getElem?_map, List.getElem?_range hb]
    have lt : (if b < j then b else b + 1) < is.length := by split <;> omega
    have ne : j ≠ (if b < j then b else b + 1) := by split <;> omega
    rw [(cell_int gb R (by omega) (by omega) ne).1]
    show _ = some (V.int (f j (if b < j then b else b + 1)))
    rw [h j _ hj lt ne]
  · rw [List.getElem?_eq_none (by omega), List.getElem?_eq_none (by rw [List.length_map, List.length_map, List.length_map, List.length_range]; exact hb)]
abbrev rLst (K : PySem.W.Frag) : List V → Hp → VK → Prop := fun xs H Q => ∃ p ys, xs = [.ref p] ∧ (SqL K H p ys ∨ SqT K H p ys) ∧ ∀ l, H l = none → Q (.ref l) (upd H l (.lst ys))
/-- copies of rows that are being made: new objects, put into the list at D -/
structure Cop (f : List Int → HO) (H7 H8 : Hp) (D : Addr) (cs : List Addr) (tss : List (List Int)) : Prop where
  S : Same H7 H8
  n : H7 D = none
  d : H8 D = some (.lst (cs.map V.ref))
  a : ∀ (n : Nat) (a : Addr) (ts : List Int), cs[n]? = some a → tss[n]? = some ts → H7 a = none ∧ a ≠ D ∧ H8 a = some (f ts)
theorem Cop.nil {f : List Int → HO} {H7 : Hp} {D : Addr} {tss : List (List Int)} (hD : H7 D = none) : Cop f H7 (upd H7 D (.lst [])) D [] tss := ⟨new_same hD, hD, upd_same, fun n a ts e => by simp at e⟩
theorem same_free {H H' : Hp} {a : Addr} (S : Same H H') (e : H' a = none) : H a = none := by
  cases q : H a with
  | none => rfl
  | some o =>
    have := S _ _ q
    rw [e] at this
    cases this
theorem Cop.snoc {f : List Int → HO} {H7 H8 : Hp} {D z : Addr} {cs : List Addr} {ts : List Int} {tss : List (List Int)} (c : Cop f H7 H8 D cs tss) (hz : H8 z = none) (ets : tss[cs.length]? = some ts) : Cop f H7 (upd (upd H8 z (f ts)) D (.lst (cs.map V.ref ++ [.ref z]))) D (cs ++ [z]) tss := by
  have nz : z ≠ D := (ne_of_none c.d hz).symm
  refine ⟨fun b o e => ?_, c.n, by rw [upd_same, List.map_append]; rfl, fun n a us e1 e2 => ?_⟩
  · rw [upd_ne (ne_of_none e c.n), upd_ne (ne_of_none (c.S _ _ e) hz)]
    exact c.S _ _ e
  · rcases Nat.lt_or_ge n cs.length with hn | hn
    · rw [List.getElem?_append_left hn] at e1
      obtain ⟨q1, q2, q3⟩ := c.a n a us e1 e2
      exact ⟨q1, q2, by rw [upd_ne q2, upd_ne (ne_of_none q3 hz)]; exact q3⟩
    · have hn2 : n = cs.length := by
        have := (List.getElem?_eq_some_iff.mp e1).1
        rw [List.length_append] at this
        have l : [z].length = 1 := rfl
        omega
      subst hn2
      rw [List.getElem?_append_right (Nat.le_refl _), Nat.sub_self] at e1
      obtain rfl : z = a := Option.some.inj e1
      rw [ets] at e2
      obtain rfl := Option.some.inj e2
      exact ⟨same_free c.S hz, nz, by rw [upd_ne nz, upd_same]⟩
def lstO (ts : List Int) : HO := .lst (ts.map V.int)
section
variable {P : Program} {w : World} {K : PySem.W.Frag} {mg : Str → Option Value} {base : Heap}
theorem ok_Lis {f fL fR C CC CN : Addr} {fd fdL fdR : FuncData} (F : Fun K "_law_is" "_law_is" s_Lis f fd) (T : TiC K C) (c : CoX K mg CC) (nis : mg "isinstance" = none) (nl : mg "len" = none) (nr : mg "range" = none) (nli : mg "list" = none)
    (GL : Cal P w K mg base CX0 1 "_law_rows" fL fdL ["_law_table"] spLRows) (GR : Mt P w K mg base (L2.CX P w) 5 CC "row_of" fR fdR ["self", "label"] (spCRow C CC CN)) : FnOk P w K mg base CX0 6 f fd ["_law_company_here", "_law_backs_here", "_law_labels_here", "_law_table"] (spLIs C CC) := by
  refine F.ok sc_Lis (fun vs H Q E h => ?_) (fun cdv A outer s H vs Q E hr h => ?_)
  · obtain ⟨x, bk, la, T, ps, f, ns, is, tss, rfl, _⟩ := h
    rfl
  · obtain ⟨x, bk, la, Tb, ps, f, ns, is, tss, rfl, hC, gb, ebk, ela, L, hf, k⟩ := h
    obtain ⟨dx, t, g, r, b, p, pr, kvs, a1, a2, a3, a4, a5, a6, a7, a8, a9, a10, a11⟩ := id hC
    have R := hC.rows
    obtain ⟨dt, tb, q1, q2⟩ := id a2
    refine ⟨_, (pss_cons 
  (ps_if (PW.pt (pw_or (pt_not (pt_val (pe_callB call_isi (by rfl) nis (by decide +kernel) (pa_cons (pv 0) (pa_cons (pe_glob (v := .ref CC) rfl c.mC rfl) pa_nil))))) (pw_or (pt_cmpR (op_neD hr.units) (pe_callTy (T := "list") (r := rLst K) call_list_of (by rfl) nli (by decide +kernel) (pa_cons (pe_fld (pv 0) rfl) pa_nil)) (pv 2) (nomark _)) (pw_or1 (pt_cmpR (op_neD hr.units) (pe_callTy (T := "list") (r := rLst K) call_list_of (by rfl) nli (by decide +kernel) (pa_cons (pe_fld (pe_fld (pv 0) rfl) rfl) pa_nil)) (pv 1) (nomark _)))))) (pss_one 
    (ps_ret pe_bl)) pss_nil) (pss_cons 
  (ps_if (pt_cmpR (op_neD hr.units) (pe_lc (own := [("_law_row", 5)]) (g := gName 5) (by rfl) sc_Lis.nd (pi_tup (pe_fld (pv 0) rfl)) (blkOk_by (own := [("_law_row", 5)]) (N := ["_law_company_here", "_law_backs_here", "_law_labels_here", "_law_table", "_law_j", "_law_row", "_law_i"]) (sc := defScope s_Lis) (by decide +kernel)) (fun _ _ _ _ _ => pg_name (i := 5) sc_Lis.nd rfl (Or.inl rfl)) (fun _ _ _ _ _ => pts_nil) (fun _ _ _ _ _ => (pe_callTy (T := "list") (r := rLst K) call_list_of (by rfl) nli (by decide +kernel) (pa_cons (pv 5) pa_nil)))) (pcal GL hr pass0 (pa_cons (pv 3) pa_nil)) (nomark _)) (pss_one 
    (ps_ret pe_bl)) pss_nil) (pss_cons 
  (ps_for PassesOwn.never rfl (pi_range1 (by rfl) nr (pa_cons (pe_callB call_len_seq (by rfl) nl PySem.boot_len (pa_cons (pv 2) pa_nil)) pa_nil)) (pg_name (i := 4) sc_Lis.nd rfl (Or.inr rfl)) (pss_one 
    (ps_if (pt_cmpR (op_neD hr.units) (pe_callTy (T := "list") (r := rLst K) call_list_of (by rfl) nli (by decide +kernel) (pa_cons (pe_meth (pv 0) c.cl GR.M GR.F hr GR.b .nil passL (pa_cons (pe_ix ix_list (pv 2) (pv 4) (fun _ _ => rfl)) pa_nil)) pa_nil)) (pe_lc (own := [("_law_i", 6)]) (g := gName 6) (by rfl) sc_Lis.nd (pi_range1 (by rfl) nr (pa_cons (pe_callB call_len_seq (by rfl) nl PySem.boot_len (pa_cons (pv 2) pa_nil)) pa_nil)) (blkOk_by (own := [("_law_i", 6)]) (N := ["_law_company_here", "_law_backs_here", "_law_labels_here", "_law_table", "_law_j", "_law_row", "_law_i"]) (sc := defScope s_Lis) (by decide +kernel)) (fun _ _ _ _ _ => pg_name (i := 6) sc_Lis.nd rfl (Or.inl rfl)) (fun _ _ _ _ _ => pts_one (pt_cmpR op_ne (pv 6) (pv 4) (nomark _))) (fun _ _ _ _ _ => (pe_ix (r := rIxL K) ix_list (pe_ix (r := rIxL K) ix_list (pv 3) (pv 4) (fun _ _ => rfl)) (pv 6) (fun _ _ => rfl)))) (nomark _)) (pss_one 
      (ps_ret pe_bl)) pss_nil))) (pss_one 
  (ps_ret pe_bl))))), ?_⟩
    refine ⟨_, rfl, _, _, _, _, true, rfl, .own CC, .base (.ins a1 c.cl c.isc.ha c.isc.hn c.isc.htk c.isc.hm), c.isc.me, _, rfl, iteF ?_⟩
    -- guests
    refine ⟨_, rfl, x, CC, dx, _, _, rfl, a1, c.cl, c.nG, cf_guests _ _ _ _ _, g, _, rfl, .inr (SqT.of a3), fun l1 hl1 => ?_⟩
    have S1 := new_same (o := .lst (is.map V.int)) hl1
    have e1 : (upd H l1 (.lst (is.map V.int))) l1 = some (.lst (is.map V.int)) := upd_same
    generalize upd H l1 (.lst (is.map V.int)) = H1 at S1 e1
    refine ⟨_, rfl, _, _, .lst (SqL.of e1) (dp_ints is), .lst (SqL.of (S1 _ _ ela)) (dp_ints is), shaped_li is, shaped_li is, _, rfl, if_fa (by rw [eqv_li]; simp) ?_⟩
    -- backs
    refine ⟨_, rfl, x, CC, dx, _, _, rfl, S1 _ _ a1, c.cl, c.nT, cf_ties _ _ _ _ _, t, C, dt, _, _, rfl, S1 _ _ q1, T.cl, T.nB, tf_backs _ _, tb, _, rfl, .inr (SqT.of (S1 _ _ q2)), fun l2 hl2 => ?_⟩
    have S2 := S1.trans (new_same (o := .lst (ns.map V.int)) hl2)
    have e2 : (upd H1 l2 (.lst (ns.map V.int))) l2 = some (.lst (ns.map V.int)) := upd_same
    generalize upd H1 l2 (.lst (ns.map V.int)) = H2 at S2 e2
    refine ⟨_, rfl, _, _, .lst (SqL.of e2) (dp_ints ns), .lst (SqL.of (S2 _ _ ebk)) (dp_ints ns), shaped_li ns, shaped_li ns, _, rfl, if_fa (by rw [eqv_li]; simp) ?_⟩
    -- rows
    have r2 := S2 _ _ a4.1
    have prl : pr.length = tss.length := a4.2.1
    refine ⟨_, rfl, x, CC, dx, _, _, rfl, S2 _ _ a1, c.cl, c.nR, cf_rows _ _ _ _ _, r, rfl, ⟨_, SqT.of r2⟩, fun D3 hD3 => ?_⟩
    refine lc_tup (K := K) (a := r) (xs := pr.map V.ref) (fun j G => ∃ cs : List Addr, cs.length = j ∧ Cop lstO H2 G D3 cs tss) ⟨[], rfl, .nil hD3⟩ (fun j G _ ⟨_, _, C8⟩ => SqT.of (C8.S _ _ r2)) ?_ ?_
    · rintro j y G hy ⟨cs, cl, C8⟩
      have hjp : j < pr.length := by
        have := (List.getElem?_eq_some_iff.mp hy).1
        rwa [List.length_map] at this
      have ea := List.getElem?_eq_getElem hjp
      have ets := List.getElem?_eq_getElem (l := tss) (i := j) (by omega)
      have e3 := (a4.2.2 j _ _ ea ets).1
      obtain rfl : V.ref pr[j] = y := by
        rw [List.getElem?_map, ea] at hy
        exact Option.some.inj hy
      refine ⟨rfl, yesT ?_⟩
      refine ⟨_, rfl, pr[j], _, rfl, .inr (SqT.of (C8.S _ _ (S2 _ _ e3))), fun z hz => ?_⟩
      refine ⟨_, new_same hz _ _ C8.d, by rw [List.length_map]; exact small1000 (by omega), cs ++ [z], by rw [List.length_append, cl]; rfl, C8.snoc hz (by rw [cl]; exact ets)⟩
    rintro H3 ⟨cs, cl, C8⟩
    rw [List.length_map] at cl
    have S3 := S2.trans C8.S
    refine ⟨_, rfl, Tb, ps, f, is.length, rfl, L.keep S3, by omega, fun H4 D4 qs gr => ?_⟩
    have S4 := S3.trans gr.S
    have eqr : rowsT f is.length = tss := by
      rw [← a9]
      exact rowsT_cell R fun a b h1 h2 => hf a b (by omega) (by omega) (by omega)
    have L4 := gr.L
    rw [eqr] at L4
    refine ⟨_, _, .lst (SqL.of (gr.S _ _ C8.d)) (dp_linesD (by omega) fun n a ts e1 e2 => gr.S _ _ (C8.a n a ts e1 e2).2.2), L4.dp, shaped_linesD tss, shaped_linesD tss, _, rfl, if_fa (by rw [eqv_lines]; simp) ?_⟩
    -- row by row
    have il : (is.map V.int).length = is.length := List.length_map _
    refine ⟨_, rfl, la, _, rfl, .inl (SqL.of (S4 _ _ ela)), ((is.map V.int).length : Nat), rfl, by omega, by omega, for_range (lo := 0) (n := (is.map V.int).length) (fun i σ G => ∃ v4 v5 v6, σ = [some (.ref x), some (.ref bk), some (.ref la), some (.ref Tb), v4, v5, v6] ∧ Same H G) ⟨none, none, none, rfl, S4⟩ ?_ ?_⟩
    · rintro i σ G hi ⟨v4, v5, v6, rfl, SG⟩
      rw [il] at hi
      have ei := List.getElem?_eq_getElem hi
      have st := seat_at a8 ei
      refine ⟨_, rfl, x, dx, _, rfl, SG _ _ a1, cf_no _ _ _ _ _ (by decide +kernel) (by decide +kernel) (by decide +kernel) (by decide +kernel) (by decide +kernel), _, rfl, _, rfl, la, _, _, _, rfl, rfl, SqL.of (SG _ _ ela), at_of (j := i) (v := .int is[i]) (by omega) (by rw [List.getElem?_map, ei]; rfl), x, ns, is, tss, .int is[i], .sc (.int is[i]), rfl, hC.keep SG, ⟨rfl, rfl⟩, (fun q => by rw [st] at q; cases q), fun j ej H5 z ys S5 ez ro => ?_⟩
      obtain rfl : i = j := by rw [st] at ej; exact Option.some.inj ej
      obtain rfl := rowOf_ints gb R a9 hi ro hf
      have SG5 := SG.trans S5
      refine ⟨z, _, rfl, .inr (SqT.of ez), fun l3 hl3 => ?_⟩
      have S6 := SG5.trans (new_same (o := .lst (((butJ is.length i).map (f i)).map V.int)) hl3)
      have e6 : (upd H5 l3 (.lst (((butJ is.length i).map (f i)).map V.int))) l3 = some (.lst (((butJ is.length i).map (f i)).map V.int)) := upd_same
      generalize upd H5 l3 (.lst (((butJ is.length i).map (f i)).map V.int)) = H6 at S6 e6
      have ep := List.getElem?_eq_getElem (l := ps) (i := i) (by have := L.2.1; rw [tabOf_len] at this; omega)
      obtain ⟨_, rw_⟩ := L.2.2 i _ _ ep (tabOf_at hi)
      generalize ps[i]'(by have := L.2.1; rw [tabOf_len] at this; omega) = pj at ep rw_
      refine ⟨_, rfl, la, _, rfl, .inl (SqL.of (S6 _ _ ela)), ((is.map V.int).length : Nat), rfl, by omega, by omega, fun D7 hD7 => ?_⟩
      refine lc_range (lo := 0) (n := (is.map V.int).length) (fun m G2 => Same H6 G2 ∧ H6 D7 = none ∧ G2 D7 = some (.lst ((((List.range m).filter fun k => decide (k ≠ i)).map (f i)).map V.int))) ⟨new_same hD7, hD7, upd_same⟩ ?_ ?_
      · rintro m G2 hm ⟨S7, E0, eE⟩
        rw [il] at hm
        have bt := butJ_take (j := i) (i := m)
        have S07 := S6.trans S7
        refine ⟨rfl, _, rfl, _, rfl, rfl, _, rfl, ?_⟩
        by_cases mi : m = i
        · subst mi
          refine if_fa (by simp) ⟨S7, E0, ?_⟩
          rw [bt, if_neg (by simp), List.append_nil]
          exact eE
        · refine if_tr (by simp; omega) ⟨_, rfl, _, rfl, Tb, _, _, _, rfl, rfl, SqL.of (S07 _ _ L.1), at_of (j := i) (v := .ref pj) (by omega) (by rw [List.getElem?_map, ep]; rfl), _, rfl, pj, _, _, _, rfl, rfl, SqL.of (S07 _ _ rw_), at_of (j := m) (v := .int (f i m)) (by omega) (by rw [List.getElem?_map, List.getElem?_map, List.getElem?_range hm]; rfl), ?_⟩
          refine ⟨_, eE, small1000 ?_, fun a o e => ?_, E0, ?_⟩
          · rw [List.length_map, List.length_map]
            have := List.length_filter_le (fun k => decide (k ≠ i)) (List.range m)
            rw [List.length_range] at this
            omega
          · rw [upd_ne (ne_of_none e E0)]
            exact S7 _ _ e
          · rw [upd_same, bt, if_pos mi, List.map_append, List.map_append]
            rfl
      rintro G2 ⟨S7, E0, eE⟩
      rw [il] at eE
      have eE : G2 D7 = some (.lst (((butJ is.length i).map (f i)).map V.int)) := eE
      refine ⟨_, _, .lst (SqL.of (S7 _ _ e6)) (dp_ints _), .lst (SqL.of eE) (dp_ints _), shaped_li _, shaped_li _, _, rfl, if_fa (by rw [eqv_li]; simp) ?_⟩
      exact ⟨_, _, _, rfl, S6.trans S7⟩
    · rintro σ G ⟨v4, v5, v6, rfl, SG⟩
      exact k G SG
end
end J

set_option Elab.async false
set_option linter.all false
set_option maxRecDepth 100000
set_option maxHeartbeats 8000000
namespace J
open PySem PySem.Spec PyProof.Rows L2
theorem lk_l1 {v : V} : List.lookup ("label" : Str) ([("label", v)] : List (Str × V)) = some v := by simp [List.lookup]
theorem scal_self {v : V} (h : isSc v = true) : scal v v = true := by
  cases v <;> first | rfl | cases h
theorem flat_sc {v : V} (h : isSc v = true) : flatV v = true := by
  cases v <;> first | rfl | cases h
abbrev s_Lrefused : Stmt := top 33
theorem sc_Lrefused : FnScope ["_law_company_here", "_law_way", "_law_thing", "_law_labels_here", "_law_told", "e"] ["_law_company_here", "_law_way", "_law_thing", "_law_labels_here"] (defScope s_Lrefused) := ⟨rfl, rfl, rfl, by decide +kernel, rfl, by decide +kernel, by decide +kernel⟩
def spLRef (C CC : Addr) : Sp := fun vs H Q _ => ∃ (x lv : Addr) (way : Int) (ns is : List Int) (tss : List (List Int)) (v : V) (xs : List V), vs = [.ref x, .int way, v, .ref lv] ∧ CompAt C CC H x ns is tss ∧ GoodB ns ∧ isSc v = true ∧ seat is v = none ∧ H lv = some (.lst xs) ∧ xs.length ≤ 900 ∧ (∀ y ∈ xs, isSc y = true) ∧
  (way = 0 → ∃ i, xs[i]? = some v ∧ ∀ (i' : Nat) (y : V), i' < i → xs[i']? = some y → (seat is y).isSome = true) ∧ ∀ H', Same H H' → Q (.bl true) H'
section
variable {P : Program} {w : World} {K : PySem.W.Frag} {mg : Str → Option Value} {base : Heap}
theorem ok_Lrefused {f fP fW fX C CC CN : Addr} {fd fdP fdW fdX : FuncData} (F : Fun K "_law_refused" "_law_refused" s_Lrefused f fd) (c : CoC K CC) (nis : mg "isinstance" = none) (nb : mg "bool" = none)
    (GP : Mt P w K mg base (L2.CX P w) 8 CC "part_of" fP fdP ["self", "labels"] (spPart C CC CN)) (GW : Mt P w K mg base (L2.CX P w) 8 CC "without" fW fdW ["self", "label"] (spWo C CC CN)) (GX : Ex P w K mg base "NoGuest" "label" CN fX fdX ["self", "label"]) :
    FnOk P w K mg base CX0 9 f fd ["_law_company_here", "_law_way", "_law_thing", "_law_labels_here"] (spLRef C CC) := by
  refine F.ok sc_Lrefused (fun vs H Q E h => ?_) (fun cdv A outer s H vs Q E hr h => ?_)
  · obtain ⟨x, lv, way, ns, is, tss, v, xs, rfl, _⟩ := h
    rfl
  · obtain ⟨x, lv, way, ns, is, tss, v, xs, rfl, hC, gb, sv, nv, elv, x900, xsc, h0, k⟩ := h
    obtain ⟨dx, t, g, r, b, p, ps, kvs, a1, _⟩ := id hC
    have isv : Is H v (.sc v) := ⟨rfl, sv⟩
    refine ⟨_, (pss_cons 
  (ps_try_as (i := 5) (Wout := fun _ _ _ _ => False) rfl rfl sc_Lrefused.nd rfl rfl ⟨rfl, by decide, Or.inl GX.m⟩ takes0 (fun W pn xe tk _ => (pss_one 
    (ps_if (pt_cmpR op_eq (pv 1) pe_int (nomark _)) (pss_one 
      (ps_set (i := 4) sc_Lrefused.nd rfl (Or.inl rfl) (by exact (pmetS (pv 0) c.cl GP.M GP.F hr GP.b (fun σ => passAt tk σ) (by exact (pa_cons (pv 3) pa_nil)))))) (pss_one 
      (ps_set (i := 4) sc_Lrefused.nd rfl (Or.inl rfl) (by exact (pmetS (pv 0) c.cl GW.M GW.F hr GW.b (fun σ => passAt tk σ) (by exact (pa_cons (pv 2) pa_nil))))))))) (fun a oe cls d pn hz hf => (pss_one 
    (ps_ret (pe_and (pe_cmpR op_eq (pe_xf GX.xf GX.no hz hf (pv 5)) (pv 2) (nomark _)) (pe_one (pe_cmpR op_eq (pe_callB (id := "isinstance") (r := rIsi K) call_isi (by rfl) nis (by decide +kernel) (pa_cons (pe_xf GX.xf GX.no hz hf (pv 5)) (pa_cons (pe_bltn (by rfl) nb (by decide +kernel) (v := .ty "bool") rfl) pa_nil))) (pe_callB (id := "isinstance") (r := rIsi K) call_isi (by rfl) nis (by decide +kernel) (pa_cons (pv 2) (pa_cons (pe_bltn (by rfl) nb (by decide +kernel) (v := .ty "bool") rfl) pa_nil))) (nomark _)))))))) (pss_one 
  (ps_ret (pe_cmpR op_isN (pv 4) pe_non (nomark _))))), ?_⟩
    have fin : ∀ {G : Hp} {b : Bool}, Same H G → Q (.bl (decide (V.bl b = V.bl b))) G := fun {G b} S => by
      rw [decide_eq_true rfl]
      exact k G S
    refine ⟨_, rfl, rfl, _, rfl, ifD (fun c0 => ?_) (fun c0 => ?_)⟩
    · have w0 : way = 0 := by injection c0
      obtain ⟨i, ei, pre⟩ := h0 w0
      refine ⟨_, rfl, x, dx, _, rfl, a1, cf_no _ _ _ _ _ (by decide +kernel) (by decide +kernel) (by decide +kernel) (by decide +kernel) (by decide +kernel), _, rfl, x, ns, is, tss, .ref lv, .lst xs, rfl, hC, gb, ⟨lv, rfl, elv⟩, rfl, (fun y hy => ⟨.sc y, rfl, xsc y hy⟩), x900, fun i' y ey ny pre' => ?_, fun all => ?_⟩
      · have eq : y = v := by
          have ii : i' = i := by
            rcases Nat.lt_trichotomy i' i with q | q | q
            · have := pre i' y q ey
              rw [ny] at this
              cases this
            · exact q
            · have := pre' i v q ei
              rw [nv] at this
              cases this
          subst ii
          rw [show (items (.lst xs))[i']? = xs[i']? from rfl, ei] at ey
          exact (Option.some.inj ey).symm
        subst eq
        intro d H1 nd S e
        obtain ⟨t, ht, _, k2, _⟩ := (isv.keep S).ty (K := K)
        exact ⟨true, GX.te, fun _ a ha => ⟨_, rfl, rfl, rfl, d, _, _, rfl, e, lk_l1, _, rfl, scal_self sv, _, rfl, if_tr (decide_eq_true rfl) ⟨_, rfl, rfl, rfl, d, _, _, rfl, e, lk_l1, _, _, _, _, _, rfl, .ty "bool", ht, kit_ty k2, _, rfl, _, _, _, _, _, rfl, .ty "bool", ht, kit_ty k2, rfl, fin S⟩⟩, fun q => nomatch q⟩
      · have := all v (List.mem_of_getElem? ei)
        rw [nv] at this
        cases this
    · refine ⟨_, rfl, x, dx, _, rfl, a1, cf_no _ _ _ _ _ (by decide +kernel) (by decide +kernel) (by decide +kernel) (by decide +kernel) (by decide +kernel), _, rfl, x, ns, is, tss, v, .sc v, rfl, hC, gb, isv, fun _ => ?_, fun j ej => ?_⟩
      · intro d H1 nd S e
        obtain ⟨t, ht, _, k2, _⟩ := (isv.keep S).ty (K := K)
        exact ⟨true, GX.te, fun _ a ha => ⟨_, rfl, rfl, rfl, d, _, _, rfl, e, lk_l1, _, rfl, scal_self sv, _, rfl, if_tr (decide_eq_true rfl) ⟨_, rfl, rfl, rfl, d, _, _, rfl, e, lk_l1, _, _, _, _, _, rfl, .ty "bool", ht, kit_ty k2, _, rfl, _, _, _, _, _, rfl, .ty "bool", ht, kit_ty k2, rfl, fin S⟩⟩, fun q => nomatch q⟩
      · rw [nv] at ej
        cases ej
end
end J

set_option Elab.async false
set_option linter.all false
set_option maxRecDepth 100000
set_option maxHeartbeats 4000000
namespace J
open PySem PySem.Spec PyProof.Rows L2
/-! ### the mathematics of a newcomer's table -/
theorem cellI_inv {ns : List Int} {tss : List (List Int)} {a b : Nat} (g : GoodB ns) (R : Rows ns.length tss) (ha : a < tss.length) (hb : b < tss.length) (ne : a ≠ b) : ns[(cellI ns tss a b).toNat]? = some (cellI ns tss b a) := by
  have inv : ∀ {a b : Nat}, a < tss.length → b < a → ns[(cellI ns tss a b).toNat]? = some (cellI ns tss b a) ∧ ns[(cellI ns tss b a).toNat]? = some (cellI ns tss a b) := by
    intro a b ha c
    have e := List.getElem?_eq_getElem ha
    obtain ⟨r1, r2⟩ := R a _ e
    have e2 := List.getElem?_eq_getElem (l := tss[a]) (i := b) (by omega)
    have q := r2 _ (List.getElem_mem (l := tss[a]) (n := b) (by omega))
    have u1 : cellI ns tss a b = tss[a][b] := by
      unfold cellI
      rw [if_pos c, e]
      show (tss[a][b]?).getD 0 = _
      rw [e2]
      rfl
    generalize tss[a][b] = t at *
    have e3 := List.getElem?_eq_getElem (l := ns) (i := t.toNat) (by omega)
    have u2 : cellI ns tss b a = ns[t.toNat]'(by omega) := by
      unfold cellI
      rw [if_neg (by omega), e]
      show ns[((tss[a][b]?).getD 0).toNat]?.getD 0 = _
      rw [e2]
      show ns[t.toNat]?.getD 0 = _
      rw [e3]
      rfl
    rw [u1, u2]
    refine ⟨e3, ?_⟩
    rw [g.inv _ _ e3, Int.toNat_of_nonneg q.1]
  rcases Nat.lt_or_ge b a with c | c
  · exact (inv ha c).1
  · exact (inv hb (show a < b by omega)).2
theorem cellI_up {ns : List Int} {tss : List (List Int)} {a b : Nat} (h : a < b) : cellI ns tss a b = (ns[(cellI ns tss b a).toNat]?).getD 0 := by
  unfold cellI
  rw [if_neg (by omega), if_pos h]
/-- the table with the newcomer behind all others -/
def wF (f : Nat → Nat → Int) (ns us : List Int) (m a b : Nat) : Int := if a < m then (if b < m then f a b else (ns[((us[a]?).getD 0).toNat]?).getD 0) else if b < m then (us[b]?).getD 0 else -1
def ordF (p m a : Nat) : Nat := if a < p then a else if a = p then m else a - 1
def ordL (p m : Nat) : List Nat := List.range p ++ [m] ++ (List.range (m - p)).map fun i => p + i
theorem ordL_len {p m : Nat} (h : p ≤ m) : (ordL p m).length = m + 1 := by
  unfold ordL
  rw [List.length_append, List.length_append, List.length_range, List.length_map, List.length_range]
  have l : [m].length = 1 := rfl
  omega
theorem ordL_at {p m a : Nat} (h : p ≤ m) (ha : a < m + 1) : (ordL p m)[a]? = some (ordF p m a) := by
  unfold ordL ordF
  have l : [m].length = 1 := rfl
  rcases Nat.lt_trichotomy a p with c | c | c
  · rw [if_pos c, List.append_assoc, List.getElem?_append_left (by rw [List.length_range]; exact c), List.getElem?_range c]
  · rw [if_neg (by omega), if_pos c, List.append_assoc, List.getElem?_append_right (by rw [List.length_range]; omega), List.length_range, show a - p = 0 by omega]
    rfl
  · rw [if_neg (by omega), if_neg (by omega), List.getElem?_append_right (by rw [List.length_append, List.length_range]; omega), List.length_append, List.length_range, List.getElem?_map, List.getElem?_range (by omega)]
    exact congrArg some (by show p + (a - (p + [m].length)) = a - 1; omega)
theorem ordL_lt {p m : Nat} (h : p ≤ m) : ∀ j ∈ ordL p m, j < m + 1 := fun j hj => by
  obtain ⟨a, e⟩ := List.getElem?_of_mem hj
  have ha := (List.getElem?_eq_some_iff.mp e).1
  rw [ordL_len h] at ha
  rw [ordL_at h ha] at e
  rw [← Option.some.inj e]
  unfold ordF
  split <;> (try split) <;> omega
section
variable {ns us is : List Int} {tss : List (List Int)} {p : Nat}
theorem wF_inv (g : GoodB ns) (R : Rows ns.length tss) (hu : us.length = tss.length) (ur : ∀ u ∈ us, 0 ≤ u ∧ u < (ns.length : Nat)) {a b : Nat} (ha : a < tss.length + 1) (hb : b < tss.length + 1) (ne : a ≠ b) :
    wF (tieF ns tss) ns us tss.length a b = (ns[(wF (tieF ns tss) ns us tss.length b a).toNat]?).getD 0 := by
  unfold wF
  by_cases c1 : a < tss.length
  · by_cases c2 : b < tss.length
    · rw [if_pos c1, if_pos c2, if_pos c2, if_pos c1]
      unfold tieF
      rw [if_neg (fun q => ne q.symm), if_neg ne, cellI_inv g R c2 c1 (fun q => ne q.symm)]
      rfl
    · rw [if_pos c1, if_neg c2, if_neg c2, if_pos c1]
  · have c2 : b < tss.length := by omega
    rw [if_neg c1, if_pos c2, if_pos c2, if_neg c1]
    have eu := List.getElem?_eq_getElem (l := us) (i := b) (by omega)
    have ub := ur _ (List.mem_of_getElem? eu)
    rw [eu]
    show us[b]'(by omega) = (ns[((ns[(us[b]'(by omega)).toNat]?).getD 0).toNat]?).getD 0
    generalize us[b]'(by omega) = u at ub
    have en := List.getElem?_eq_getElem (l := ns) (i := u.toNat) (by omega)
    rw [en]
    show u = (ns[(ns[u.toNat]'(by omega)).toNat]?).getD 0
    rw [g.inv _ _ en]
    show u = ((u.toNat : Nat) : Int)
    rw [Int.toNat_of_nonneg ub.1]
theorem withR_len (hp : p ≤ tss.length) : (withR ns us tss p).length = tss.length + 1 := by
  unfold withR
  rw [withK_len hp]
  omega
theorem withR_at (hp : p ≤ tss.length) {a : Nat} (ha : a < tss.length + 1) : (withR ns us tss p)[a]? = some (if a < p then (tss[a]?).getD [] else if a = p then us.take p else laterR ns us tss p (a - 1)) := by
  unfold withR withK
  have l : [us.take p].length = 1 := rfl
  rcases Nat.lt_trichotomy a p with c | c | c
  · rw [if_pos c, List.append_assoc, List.getElem?_append_left (by rw [List.length_take]; omega), List.getElem?_take_of_lt c, List.getElem?_eq_getElem (by omega)]
    rfl
  · rw [if_neg (by omega), if_pos c, List.append_assoc, List.getElem?_append_right (by rw [List.length_take]; omega), List.length_take, show a - min p tss.length = 0 by omega]
    rfl
  · rw [if_neg (by omega), if_neg (by omega), List.getElem?_append_right (by rw [List.length_append, List.length_take]; omega), List.length_append, List.length_take, List.getElem?_map, List.getElem?_range (by omega)]
    exact congrArg some (by show laterR ns us tss p (p + (a - (min p tss.length + [us.take p].length))) = _; rw [show p + (a - (min p tss.length + [us.take p].length)) = a - 1 by omega])
theorem withR_low (R : Rows ns.length tss) (hp : p ≤ tss.length) (hu : us.length = tss.length) {a b : Nat} (ha : a < tss.length + 1) (hb : b < a) : cellI ns (withR ns us tss p) a b = wF (tieF ns tss) ns us tss.length (ordF p tss.length a) (ordF p tss.length b) := by
  have tie : ∀ {x y : Nat}, x < tss.length → y < x → tieF ns tss x y = ((((tss[x]?).getD [])[y]?).getD 0) := fun {x y} hx hy => by
    unfold tieF cellI
    rw [if_neg (by omega), if_pos hy]
  have e0 : cellI ns (withR ns us tss p) a b = ((((withR ns us tss p)[a]?).getD [])[b]?).getD 0 := by
    unfold cellI
    rw [if_pos hb]
  rw [e0, withR_at hp ha]
  show ((if a < p then (tss[a]?).getD [] else if a = p then us.take p else laterR ns us tss p (a - 1))[b]?).getD 0 = _
  unfold ordF wF
  rcases Nat.lt_trichotomy a p with c | c | c
  · rw [if_pos c, if_pos c, if_pos (show a < tss.length by omega), if_pos (show b < p by omega), if_pos (show b < tss.length by omega), tie (by omega) hb]
  · rw [if_neg (by omega), if_pos c, if_neg (show ¬ a < p by omega), if_pos c, if_neg (Nat.lt_irrefl _), if_pos (show b < p by omega), if_pos (show b < tss.length by omega), List.getElem?_take_of_lt (by omega)]
  · rw [if_neg (by omega), if_neg (by omega), if_neg (show ¬ a < p by omega), if_neg (show ¬ a = p by omega), if_pos (show a - 1 < tss.length by omega)]
    have ea := List.getElem?_eq_getElem (l := tss) (i := a - 1) (by omega)
    obtain ⟨r1, _⟩ := R _ _ ea
    have l : [(ns[((us[a - 1]?).getD 0).toNat]?).getD 0].length = 1 := rfl
    unfold laterR
    rcases Nat.lt_trichotomy b p with d | d | d
    · rw [if_pos d, if_pos (show b < tss.length by omega), tie (by omega) (by omega), ea]
      show ((((tss[a - 1]'(by omega)).take p ++ _ ++ _)[b]?).getD 0) = (((tss[a - 1]'(by omega))[b]?).getD 0)
      rw [List.append_assoc, List.getElem?_append_left (by rw [List.length_take]; omega), List.getElem?_take_of_lt d]
    · rw [if_neg (show ¬ b < p by omega), if_pos d, if_neg (Nat.lt_irrefl _), ea]
      show ((((tss[a - 1]'(by omega)).take p ++ [(ns[((us[a - 1]?).getD 0).toNat]?).getD 0] ++ _)[b]?).getD 0) = _
      rw [List.append_assoc, List.getElem?_append_right (by rw [List.length_take]; omega), List.length_take, show b - min p (tss[a - 1]'(by omega)).length = 0 by omega]
      rfl
    · rw [if_neg (show ¬ b < p by omega), if_neg (show ¬ b = p by omega), if_pos (show b - 1 < tss.length by omega), tie (by omega) (by omega), ea]
      show ((((tss[a - 1]'(by omega)).take p ++ [(ns[((us[a - 1]?).getD 0).toNat]?).getD 0] ++ (tss[a - 1]'(by omega)).drop p)[b]?).getD 0) = (((tss[a - 1]'(by omega))[b - 1]?).getD 0)
      rw [List.getElem?_append_right (by rw [List.length_append, List.length_take]; omega), List.length_append, List.length_take, List.getElem?_drop, show p + (b - (min p (tss[a - 1]'(by omega)).length + [(ns[((us[a - 1]?).getD 0).toNat]?).getD 0].length)) = b - 1 by omega]
theorem ordF_ne {m a b : Nat} (hp : p ≤ m) (ha : a < m + 1) (hb : b < m + 1) (ne : a ≠ b) : ordF p m a ≠ ordF p m b := by
  unfold ordF
  repeat' split
  all_goals omega
theorem ordF_lt {m a : Nat} (hp : p ≤ m) (ha : a < m + 1) : ordF p m a < m + 1 := by
  unfold ordF
  split <;> (try split) <;> omega
/-- what the law's table tells is what the company with the newcomer tells -/
theorem withR_cell (g : GoodB ns) (R : Rows ns.length tss) (hp : p ≤ tss.length) (hu : us.length = tss.length) (ur : ∀ u ∈ us, 0 ≤ u ∧ u < (ns.length : Nat)) {a b : Nat} (ha : a < tss.length + 1) (hb : b < tss.length + 1) (ne : a ≠ b) :
    wF (tieF ns tss) ns us tss.length (ordF p tss.length a) (ordF p tss.length b) = cellI ns (withR ns us tss p) a b := by
  rcases Nat.lt_or_ge b a with c | c
  · exact (withR_low R hp hu ha c).symm
  · rw [cellI_up (show a < b by omega), withR_low R hp hu hb (show a < b by omega)]
    exact wF_inv g R hu ur (ordF_lt hp ha) (ordF_lt hp hb) (ordF_ne hp ha hb ne)
def skF (p b : Nat) : Nat := if b < p then b else b + 1
theorem ordF_sk {m b : Nat} (hp : p ≤ m) (hb : b < m) : ordF p m (skF p b) = b := by
  unfold ordF skF
  repeat' split
  all_goals omega
theorem withR_back (g : GoodB ns) (R : Rows ns.length tss) (hp : p ≤ tss.length) (hu : us.length = tss.length) (ur : ∀ u ∈ us, 0 ≤ u ∧ u < (ns.length : Nat)) : subT ns (withR ns us tss p) (butJ (tss.length + 1) p) (butJ (tss.length + 1) p).length = tss := by
  have bl : (butJ (tss.length + 1) p).length = tss.length := by rw [butJ_skip (by omega), List.length_map, List.length_range]; omega
  have bat : ∀ {b : Nat}, b < tss.length → ((butJ (tss.length + 1) p)[b]?).getD 0 = skF p b := fun {b} hb => by
    rw [butJ_skip (by omega), List.getElem?_map, List.getElem?_range (by omega)]
    rfl
  have sk : ∀ {b : Nat}, b < tss.length → skF p b < tss.length + 1 := fun {b} hb => by unfold skF; split <;> omega
  have e : subT ns (withR ns us tss p) (butJ (tss.length + 1) p) (butJ (tss.length + 1) p).length = rowsT (cellI ns tss) tss.length := by
    rw [bl]
    unfold subT rowsT
    refine List.map_congr_left fun a ha => ?_
    rw [List.mem_range] at ha
    unfold rowT
    refine List.map_congr_left fun b hb => ?_
    rw [List.mem_range] at hb
    rw [bat ha, bat (show b < tss.length by omega), ← withR_cell g R hp hu ur (sk ha) (sk (by omega)) (by unfold skF; split <;> split <;> omega), ordF_sk hp ha, ordF_sk hp (by omega)]
    unfold wF
    rw [if_pos ha, if_pos (by omega)]
    unfold tieF
    rw [if_neg (by omega)]
  rw [e]
  exact rowsT_cell R fun a b _ _ => rfl
theorem insL_sk {n : Int} {b : Nat} (hb : b < is.length) : (insL is n)[skF (below is n) b]? = is[b]? := by
  have := below_le (is := is) (n := n)
  unfold insL skF
  by_cases c : b < below is n
  · rw [if_pos c, List.append_assoc, List.getElem?_append_left (by rw [List.length_take]; omega), List.getElem?_take_of_lt c]
  · have l : [n].length = 1 := rfl
    rw [if_neg c, List.getElem?_append_right (by rw [List.length_append, List.length_take]; omega), List.length_append, List.length_take, List.getElem?_drop, show below is n + (b + 1 - (min (below is n) is.length + [n].length)) = b by omega]
theorem insL_p {n : Int} : (insL is n)[below is n]? = some n := by
  have b := below_le (is := is) (n := n)
  unfold insL
  rw [List.append_assoc, List.getElem?_append_right (by rw [List.length_take]; omega), List.length_take, show below is n - min (below is n) is.length = 0 by omega]
  rfl
theorem pick_back {n : Int} : pickL (insL is n) (butJ (is.length + 1) (below is n)) = is := by
  have b := below_le (is := is) (n := n)
  unfold pickL
  rw [butJ_skip (by omega)]
  refine List.ext_getElem? fun i => ?_
  rcases Nat.lt_or_ge i is.length with h | h
  · rw [List.getElem?_map, List.getElem?_map, List.getElem?_range (by omega)]
    show some (((insL is n)[skF (below is n) i]?).getD 0) = _
    rw [insL_sk h, List.getElem?_eq_getElem h]
    rfl
  · rw [List.getElem?_eq_none (by rw [List.length_map, List.length_map, List.length_range]; omega), List.getElem?_eq_none h]
end
end J

set_option Elab.async false
set_option linter.all false
set_option maxRecDepth 100000
set_option maxHeartbeats 8000000
namespace J
open PySem PySem.Spec PyProof.Rows L2
theorem ints_flat (is : List Int) : (is.map V.int).all flatV = true := by
  rw [List.all_map, List.all_eq_true]
  exact fun x _ => rfl
theorem inV_ints {is : List Int} {n : Int} : inV (.int n) (is.map V.int) = decide (n ∈ is) := by
  unfold inV
  rw [List.any_map]
  induction is with
  | nil => simp
  | cons x xs ih =>
    rw [List.any_cons, ih]
    by_cases c : x = n
    · subst c
      simp [Function.comp, eqV]
    · have c' : ¬ n = x := fun e => c e.symm
      simp [Function.comp, eqV, c, c']
abbrev s_Lpick : Stmt := top 25
theorem sc_Lpick : FnScope ["_law_hand_here", "_law_things"] ["_law_hand_here", "_law_things"] (defScope s_Lpick) := ⟨rfl, rfl, rfl, by decide +kernel, rfl, by decide +kernel, by decide +kernel⟩
theorem Hand.same_h' {H : Hp} {h q z : Addr} (x : Hand H h q) (hz : H z = none) : z ≠ h ∧ z ≠ q := ⟨fun e => (x.h_ne hz).1 e.symm, fun e => (x.h_ne hz).2 e.symm⟩
def spPick : Sp := fun vs H Q _ => ∃ (h q l : Addr) (xs : List V), vs = [.ref h, .ref l] ∧ Hand H h q ∧ l ≠ h ∧ H l = some (.lst xs) ∧ 0 < xs.length ∧ xs.length ≤ 1000 ∧ ∀ (H' : Hp) (y : V), y ∈ xs → But h H H' → Hand H' h q → Q y H'
/-- a company stands while the hand is drawn from -/
theorem CompAt.but {C CC h : Addr} {H H' : Hp} {x : Addr} {ns is : List Int} {tss : List (List Int)} {ys : List V} (c : CompAt C CC H x ns is tss) (eh : H h = some (.lst ys)) (B : But h H H') : CompAt C CC H' x ns is tss := by
  obtain ⟨dx, t, g, r, b, p, ps, kvs, a1, ⟨d1, tb, w1, w2⟩, a3, ⟨r1, r2, r3⟩, ⟨us, u1, u2, u3⟩, a6, a7⟩ := c
  have one : ∀ {a : Addr} {o : HO}, H a = some o → (∀ zs, o ≠ .lst zs) → H' a = some o := fun {a o} e n => B _ _ (fun q => by
    rw [q, eh] at e
    exact n ys (Option.some.inj e).symm) e
  refine ⟨dx, t, g, r, b, p, ps, kvs, one a1 (fun _ z => by cases z), ⟨d1, tb, one w1 (fun _ z => by cases z), one w2 (fun _ z => by cases z)⟩, one a3 (fun _ z => by cases z), ⟨one r1 (fun _ z => by cases z), r2, fun j a ts e1 e2 => ?_⟩, ⟨us, one u1 (fun _ z => by cases z), u2, fun a u e => ?_⟩, one a6 (fun _ z => by cases z), a7⟩
  · obtain ⟨q1, q2⟩ := r3 j a ts e1 e2
    exact ⟨one q1 (fun _ z => by cases z), q2⟩
  · obtain ⟨xs, q1, q2⟩ := u3 a u e
    exact ⟨xs, one q1 (fun _ z => by cases z), q2⟩
abbrev rTupOf (K : PySem.W.Frag) : List V → Hp → VK → Prop := fun xs H Q => ∃ p ys, xs = [.ref p] ∧ ((SqL K H p ys ∧ ∀ l, H l = none → Q (.ref l) (upd H l (.tup ys))) ∨ (SqT K H p ys ∧ Q (.ref p) H))
/-- some label is free -/
theorem free_run {is : List Int} (a : Asc is) (h0 : ∀ n ∈ is, 0 ≤ n) : ∀ k : Nat, (∀ j, j < k → is[j]? = some (j : Int)) ∨ ∃ j, j < k ∧ ((j : Nat) : Int) ∉ is ∧ (j = 0 ∨ ((j : Nat) : Int) - 1 ∈ is)
  | 0 => .inl fun j hj => absurd hj (Nat.not_lt_zero j)
  | k + 1 => by
    rcases free_run a h0 k with h | ⟨j, h1, h2, h3⟩
    · by_cases c : ((k : Nat) : Int) ∈ is
      · refine .inl fun j hj => ?_
        rcases Nat.lt_or_ge j k with q | q
        · exact h j q
        · obtain rfl : j = k := by omega
          obtain ⟨m, em⟩ := List.getElem?_of_mem c
          rcases Nat.lt_trichotomy m j with q | q | q
          · have := (h m q).symm.trans em
            injection this with this
            omega
          · rw [q] at em
            exact em
          · have hj : j < is.length := by have := (List.getElem?_eq_some_iff.mp em).1; omega
            have ej := List.getElem?_eq_getElem hj
            have l1 := Asc.lt a (m - j - 1) j _ _ ej (by rw [show j + 1 + (m - j - 1) = m by omega]; exact em)
            have l2 := h0 _ (List.mem_of_getElem? ej)
            rcases Nat.eq_zero_or_pos j with z | z
            · omega
            · have l3 := Asc.lt a 0 (j - 1) _ _ (h (j - 1) (by omega)) (by rw [show j - 1 + 1 + 0 = j by omega]; exact ej)
              omega
      · refine .inr ⟨k, by omega, c, ?_⟩
        rcases Nat.eq_zero_or_pos k with z | z
        · exact .inl z
        · exact .inr (List.mem_of_getElem? (i := k - 1) (by rw [h (k - 1) (by omega)]; exact congrArg some (by omega)))
    · exact .inr ⟨j, by omega, h2, h3⟩
def cands (is : List Int) : List Int := [0, 7, 10 ^ Int.toNat 9] ++ is.map fun n => n + 1
def okN (is : List Int) (n : Int) : Bool := !inV (.int n) (is.map V.int) && decide (n ≤ 10 ^ Int.toNat 9)
theorem free_ex {is : List Int} (a : Asc is) (h0 : ∀ n ∈ is, 0 ≤ n ∧ n ≤ 1000000000) (l60 : is.length ≤ 60) : ∃ n ∈ cands is, okN is n = true := by
  have k : ∀ j : Nat, j < 61 → ((j : Nat) : Int) ∉ is → okN is ((j : Nat) : Int) = true := fun j hj hn => by
    unfold okN
    rw [inV_ints, decide_eq_false hn, show (10 : Int) ^ Int.toNat 9 = 1000000000 from rfl]
    simp
    omega
  rcases free_run a (fun n hn => (h0 n hn).1) 61 with h | ⟨j, h1, h2, h3⟩
  · have := (List.getElem?_eq_some_iff.mp (h 60 (by omega))).1
    omega
  · refine ⟨(j : Nat), ?_, k j h1 h2⟩
    rcases h3 with rfl | h3
    · exact List.mem_append_left _ (List.mem_cons_self ..)
    · refine List.mem_append_right _ (List.mem_map.mpr ⟨_, h3, by omega⟩)
theorem filter_take1 {α : Type} {p : α → Bool} {l : List α} {i : Nat} {x : α} (h : l[i]? = some x) : (l.take (i + 1)).filter p = (l.take i).filter p ++ if p x then [x] else [] := by
  rw [List.take_add_one, h, List.filter_append]
  congr 1
  cases c : p x <;> simp [c]
section
variable {P : Program} {w : World} {K : PySem.W.Frag} {mg : Str → Option Value} {base : Heap}
theorem ok_Lpick {f fD : Addr} {fd fdD : FuncData} (F : Fun K "_law_pick" "_law_pick" s_Lpick f fd) (nl : mg "len" = none) (GD : Cal P w K mg base CX0 2 "_law_draw" fD fdD ["_law_hand_here", "_law_many"] spDraw) : FnOk P w K mg base CX0 3 f fd ["_law_hand_here", "_law_things"] spPick := by
  refine F.ok sc_Lpick (fun vs H Q E h => ?_) (fun cdv A outer s H vs Q E hr h => ?_)
  · obtain ⟨h, q, l, xs, rfl, _⟩ := h
    rfl
  · obtain ⟨h, q, l, xs, rfl, hh, nlh, el, g0, g1, k⟩ := h
    refine ⟨_, (pss_one (ps_ret (pe_ix ix_list (pv 1) (pcal GD hr pass0 (pa_cons (pv 0) (pa_cons (pe_callB call_len_seq (by rfl) nl PySem.boot_len (pa_cons (pv 1) pa_nil)) pa_nil))) (fun _ _ => rfl)))), ?_⟩
    refine ⟨_, rfl, _, rfl, _, rfl, l, xs, rfl, .inl (SqL.of el), h, q, _, rfl, by omega, by omega, hh, fun v H1 v0 v1 b1 h1 => ?_⟩
    have hv : v.toNat < xs.length := by omega
    exact ⟨l, xs, v, xs[v.toNat], rfl, rfl, SqL.of (b1 _ _ nlh el), at_of (j := v.toNat) (by omega) (List.getElem?_eq_getElem hv), k H1 _ (List.getElem_mem hv) b1 h1⟩
end
end J

set_option Elab.async false
set_option linter.all false
set_option maxRecDepth 100000
set_option maxHeartbeats 8000000
namespace J
open PySem PySem.Spec PyProof.Rows L2
abbrev s_Lnewcomer : Stmt := top 34
theorem sc_Lnewcomer : FnScope ["_law_hand_here", "_law_company_here", "_law_backs_here", "_law_labels_here", "_law_table", "_law_many", "_law_free", "_law_label", "_law_row", "_law_place", "_law_handed", "_law_bigger", "_law_order", "_law_whole", "_law_news", "_law_guest", "_law_k", "_law_i"] ["_law_hand_here", "_law_company_here", "_law_backs_here", "_law_labels_here", "_law_table"] (defScope s_Lnewcomer) := ⟨rfl, rfl, rfl, by decide +kernel, rfl, by decide +kernel, by decide +kernel⟩
def spNew (C CC : Addr) : Sp := fun vs H Q _ => ∃ (h q x bk la T : Addr) (ps : List Addr) (ns is : List Int) (tss : List (List Int)), vs = [.ref h, .ref x, .ref bk, .ref la, .ref T] ∧ Hand H h q ∧ CompAt C CC H x ns is tss ∧ GoodB ns ∧ is.length ≤ 50 ∧ bk ≠ h ∧ la ≠ h ∧ T ≠ h ∧ (∀ p ∈ ps, p ≠ h) ∧ H bk = some (.lst (ns.map V.int)) ∧ H la = some (.lst (is.map V.int)) ∧ LinesAt H T ps (tabOf (tieF ns tss) is.length) ∧
  ∀ (H' : Hp), But h H H' → Hand H' h q → Q (.bl true) H'
theorem LinesAt.but {h : Addr} {H H' : Hp} {l : Addr} {ps : List Addr} {tss : List (List Int)} (L : LinesAt H l ps tss) (n1 : l ≠ h) (n2 : ∀ a ∈ ps, a ≠ h) (B : But h H H') : LinesAt H' l ps tss :=
  ⟨B _ _ n1 L.1, L.2.1, fun j a ts e1 e2 => ⟨(L.2.2 j a ts e1 e2).1, B _ _ (n2 a (List.mem_of_getElem? e1)) (L.2.2 j a ts e1 e2).2⟩⟩
theorem insL_seat' {is : List Int} {n : Int} (a : Asc is) (h : n ∉ is) : seat (insL is n) (.int n) = some (below is n) := seat_at (insL_asc a (fun y hy e => h (by rw [← e]; exact hy))) insL_p
section
variable {P : Program} {w : World} {K : PySem.W.Frag} {mg : Str → Option Value} {base : Heap}
theorem ok_Lnewcomer {f fD fP fI fL fW fR fO fT fC fE C CC CB CN : Addr} {fd fdD fdP fdI fdL fdW fdR fdO fdT fdC fdE : FuncData} (F : Fun K "_law_newcomer" "_law_newcomer" s_Lnewcomer f fd) (c : CoC K CC) (nl : mg "len" = none) (nr : mg "range" = none) (nli : mg "list" = none) (nt : mg "tuple" = none)
    (GD : Cal P w K mg base CX0 2 "_law_draw" fD fdD ["_law_hand_here", "_law_many"] spDraw) (GP : Cal P w K mg base CX0 3 "_law_pick" fP fdP ["_law_hand_here", "_law_things"] spPick) (GI : Cal P w K mg base CX0 6 "_law_is" fI fdI ["_law_company_here", "_law_backs_here", "_law_labels_here", "_law_table"] (spLIs C CC)) (GL : Cal P w K mg base CX0 1 "_law_part" fL fdL ["_law_table", "_law_places"] spLPart)
    (GW : Mt P w K mg base (L2.CX P w) 7 CC "with_row" fW fdW ["self", "label", "row"] (spWR C CC CB)) (GR : Mt P w K mg base (L2.CX P w) 5 CC "row_of" fR fdR ["self", "label"] (spCRow C CC CN)) (GO : Mt P w K mg base (L2.CX P w) 8 CC "without" fO fdO ["self", "label"] (spWo C CC CN)) (GT : Mt P w K mg base (L2.CX P w) 8 CC "part_of" fT fdT ["self", "labels"] (spPart C CC CN))
    (FC : FnOk P w K mg base CX0 3 fC fdC ["self", "label"] (spCIn C CC)) (aC : PySem.W.findIn K (.ref CC) "__contains__" = some (some (.ref fC))) (iC : PySem.W.isFn K (.ref fC) = true) (bC : Binds K fdC ["self", "label"] [])
    (FE : FnOk P w K mg base CX0 2 fE fdE ["self", "other"] (spCEq C CC)) (aE : PySem.W.findIn K (.ref CC) "__eq__" = some (some (.ref fE))) (nE : PySem.W.findIn K (.ref CC) "__ne__" = some (some (.builtin "object.__ne__"))) (mE : PySem.W.mroIn K CC (.type "object") = some true) (iE : PySem.W.isFn K (.ref fE) = true) (bE : Binds K fdE ["self", "other"] []) :
    FnOk P w K mg base CX0 9 f fd ["_law_hand_here", "_law_company_here", "_law_backs_here", "_law_labels_here", "_law_table"] (spNew C CC) := by
  refine F.ok sc_Lnewcomer (fun vs H Q E h => ?_) (fun cdv A outer s H vs Q E hr h => ?_)
  · obtain ⟨h, q, x, bk, la, T, ps, ns, is, tss, rfl, _⟩ := h
    rfl
  · obtain ⟨h, q, x, bk, la, Tb, ps, ns, is, tss, rfl, hh, hC, gb, i50, nbh, nlh, nTh, nph, ebk, ela, LT0, k⟩ := h
    have hr3 : Room 3 _ := hr.mono (by decide)
    have il : (is.map V.int).length = is.length := List.length_map _
    obtain ⟨dx, _, _, _, _, _, _, _, a1, _, _, _, _, _, _, asc, tl, l60, labs⟩ := id hC
    refine ⟨_, (pss_cons 
  (ps_set (i := 5) sc_Lnewcomer.nd rfl (Or.inl rfl) (pe_callB call_len_seq (by rfl) nl PySem.boot_len (pa_cons (pv 3) pa_nil))) (pss_cons 
  (ps_setLc (i := 6) (own := [("_law_label", 7)]) (g := gName 7) rfl sc_Lnewcomer.nd rfl rfl (sw_true rfl rfl rfl (by decide +kernel)) (pi_list (pe_op op_cat (pe_lst (pa_cons pe_int (pa_cons pe_int (pa_cons (pe_op op_pow pe_int pe_int) pa_nil)))) (pe_lc (own := [("_law_guest", 15)]) (g := gName 15) (by rfl) sc_Lnewcomer.nd (pi_list (pv 3)) (blkOk_by (own := [("_law_guest", 15)]) (N := ["_law_hand_here", "_law_company_here", "_law_backs_here", "_law_labels_here", "_law_table", "_law_many", "_law_free", "_law_label", "_law_row", "_law_place", "_law_handed", "_law_bigger", "_law_order", "_law_whole", "_law_news", "_law_guest", "_law_k", "_law_i"]) (sc := defScope s_Lnewcomer) (by decide +kernel)) (fun _ _ _ _ _ => pg_name (i := 15) sc_Lnewcomer.nd rfl (Or.inl rfl)) (fun _ _ _ _ _ => pts_nil) (fun _ _ _ _ _ => (pe_op op_add (pv 15) pe_int))))) (blkOk_by (own := [("_law_label", 7)]) (N := ["_law_hand_here", "_law_company_here", "_law_backs_here", "_law_labels_here", "_law_table", "_law_many", "_law_free", "_law_label", "_law_row", "_law_place", "_law_handed", "_law_bigger", "_law_order", "_law_whole", "_law_news", "_law_guest", "_law_k", "_law_i"]) (sc := defScope s_Lnewcomer) (by decide +kernel)) (fun _ _ _ _ _ => pg_name (i := 7) sc_Lnewcomer.nd rfl (Or.inl rfl)) (fun _ _ _ _ _ => pts_one (PW.pt (pw_and (pt_cmpR (r := rIn K true) op_notIn_seq (pv 7) (pv 3) (by rfl)) (pw_and1 (pt_cmpR op_le (pv 7) (pe_op op_pow pe_int pe_int) (nomark _)))))) (fun _ _ _ _ _ => (pv 7))) (pss_cons 
  (ps_set (i := 7) sc_Lnewcomer.nd rfl (Or.inr rfl) (pcal GP hr pass0 (pa_cons (pv 0) (pa_cons (pv 6) pa_nil)))) (pss_cons 
  (ps_set (i := 8) sc_Lnewcomer.nd rfl (Or.inr rfl) (pe_lc (own := [("_law_k", 16)]) (g := gName 16) (by rfl) sc_Lnewcomer.nd (pi_range1 (by rfl) nr (pa_cons (pv 5) pa_nil)) (blkOk_by (own := [("_law_k", 16)]) (N := ["_law_hand_here", "_law_company_here", "_law_backs_here", "_law_labels_here", "_law_table", "_law_many", "_law_free", "_law_label", "_law_row", "_law_place", "_law_handed", "_law_bigger", "_law_order", "_law_whole", "_law_news", "_law_guest", "_law_k", "_law_i"]) (sc := defScope s_Lnewcomer) (by decide +kernel)) (fun _ _ _ _ _ => pg_name (i := 16) sc_Lnewcomer.nd rfl (Or.inl rfl)) (fun _ _ _ _ _ => pts_nil) (fun _ _ _ _ _ => (pcal GD hr pass0 (pa_cons (pv 0) (pa_cons (pe_callB (id := "len") (r := rLen K) call_len_seq (by rfl) nl PySem.boot_len (pa_cons (pv 2) pa_nil)) pa_nil)))))) (pss_cons 
  (ps_set (i := 9) sc_Lnewcomer.nd rfl (Or.inl rfl) (pe_callB call_len_seq (by rfl) nl PySem.boot_len (pa_cons (pe_lc (own := [("_law_guest", 15)]) (g := gName 15) (by rfl) sc_Lnewcomer.nd (pi_list (pv 3)) (blkOk_by (own := [("_law_guest", 15)]) (N := ["_law_hand_here", "_law_company_here", "_law_backs_here", "_law_labels_here", "_law_table", "_law_many", "_law_free", "_law_label", "_law_row", "_law_place", "_law_handed", "_law_bigger", "_law_order", "_law_whole", "_law_news", "_law_guest", "_law_k", "_law_i"]) (sc := defScope s_Lnewcomer) (by decide +kernel)) (fun _ _ _ _ _ => pg_name (i := 15) sc_Lnewcomer.nd rfl (Or.inl rfl)) (fun _ _ _ _ _ => pts_one (pt_cmpR op_lt (pv 15) (pv 7) (nomark _))) (fun _ _ _ _ _ => (pv 15))) pa_nil))) (C8.pss_cut 
  (ps_set (i := 10) sc_Lnewcomer.nd rfl (Or.inl rfl) (pe_ifExp (pt_cmpR op_eq (pcal GD hr pass0 (pa_cons (pv 0) (pa_cons pe_int pa_nil))) pe_int (nomark _)) (pe_callTy (T := "list") (r := rLst K) call_list_of (by rfl) nli (by decide +kernel) (pa_cons (pv 8) pa_nil)) (pe_callTy (T := "tuple") (r := rTupOf K) call_tuple_of (by rfl) nt (by decide +kernel) (pa_cons (pv 8) pa_nil)))) (pss_cons 
  (ps_set (i := 11) sc_Lnewcomer.nd rfl (Or.inl rfl) (pe_meth (pv 1) c.cl GW.M GW.F (hr.mono (by decide)) GW.b .nil passL (pa_cons (pv 7) (pa_cons (pv 10) pa_nil)))) (pss_cons 
  (ps_set (i := 12) sc_Lnewcomer.nd rfl (Or.inl rfl) (pe_op op_cat (pe_op op_cat (pe_listRg rfl (by rfl) nli (prg_1 (by rfl) nr (pv 9))) (pe_lst (pa_cons (pv 5) pa_nil))) (pe_listRg rfl (by rfl) nli (prg_2 (by rfl) nr (pv 9) (pv 5))))) (pss_cons 
  (ps_setLc (i := 13) (own := [("_law_i", 17)]) (g := gName 17) rfl sc_Lnewcomer.nd rfl rfl (sw_true rfl rfl rfl (by decide +kernel)) (pi_range1 (by rfl) nr (pa_cons (pv 5) pa_nil)) (blkOk_by (own := [("_law_i", 17)]) (N := ["_law_hand_here", "_law_company_here", "_law_backs_here", "_law_labels_here", "_law_table", "_law_many", "_law_free", "_law_label", "_law_row", "_law_place", "_law_handed", "_law_bigger", "_law_order", "_law_whole", "_law_news", "_law_guest", "_law_k", "_law_i"]) (sc := defScope s_Lnewcomer) (by decide +kernel)) (fun _ _ _ _ _ => pg_name (i := 17) sc_Lnewcomer.nd rfl (Or.inl rfl)) (fun _ _ _ _ _ => pts_nil) (fun _ _ _ _ _ => (pe_op op_cat (pe_ix (r := rIxL K) ix_list (pv 4) (pv 17) (fun _ _ => rfl)) (pe_lst (pa_cons (pe_ix (r := rIxL K) ix_list (pv 2) (pe_ix (r := rIxL K) ix_list (pv 8) (pv 17) (fun _ _ => rfl)) (fun _ _ => rfl)) pa_nil))))) (pss_cons 
  (ps_expr (pe_bm PySem.F.plainAttrs_list PySem.F.slot_list_append PySem.F.type_list_append mt_append (pv 13) (pa_cons (pe_op op_cat (pv 8) (pe_lst (pa_cons (pe_un un_neg pe_int) pa_nil))) pa_nil))) (pss_cons 
  (ps_set (i := 14) sc_Lnewcomer.nd rfl (Or.inl rfl) (pe_op op_cat (pe_op op_cat (pe_slice (r := rSlL K) sl_list (pv 3) po_none (po_some (pv 9))) (pe_lst (pa_cons (pv 7) pa_nil))) (pe_slice (r := rSlL K) sl_list (pv 3) (po_some (pv 9)) po_none))) (pss_cons 
  (ps_if (PW.pt (pw_or (pt_not (pt_val (pcal GI hr pass0 (pa_cons (pv 11) (pa_cons (pv 2) (pa_cons (pv 14) (pa_cons (pcal GL hr pass0 (pa_cons (pv 13) (pa_cons (pv 12) pa_nil))) pa_nil))))))) (pw_or1 (pt_cmpR (op_neD hr.units) (pe_callTy (T := "list") (r := rLst K) call_list_of (by rfl) nli (by decide +kernel) (pa_cons (pv 10) pa_nil)) (pv 8) (nomark _))))) (pss_one 
    (ps_ret pe_bl)) pss_nil) (pss_cons 
  (ps_if (PW.pt (pw_or (pt_cmpR (op_neD hr.units) (pe_callTy (T := "list") (r := rLst K) call_list_of (by rfl) nli (by decide +kernel) (pa_cons (pe_meth (pv 11) c.cl GR.M GR.F (hr.mono (by decide)) GR.b .nil passL (pa_cons (pv 7) pa_nil)) pa_nil)) (pv 8) (nomark _)) (pw_or (pt_cmpR (op_neOwn (E := fun _ _ _ => False) FE aE nE mE iE bE hr3) (pe_meth (pv 11) c.cl GO.M GO.F hr GO.b .nil passL (pa_cons (pv 7) pa_nil)) (pv 1) (by rfl)) (pw_or1 (pt_cmpR (op_neOwn (E := fun _ _ _ => False) FE aE nE mE iE bE hr3) (pe_meth (pv 11) c.cl GT.M GT.F hr GT.b .nil passL (pa_cons (pv 3) pa_nil)) (pv 1) (by rfl)))))) (pss_one 
    (ps_ret pe_bl)) pss_nil) (pss_one 
  (ps_ret (pe_and (pe_cmpR (op_neOwn (E := fun _ _ _ => False) FE aE nE mE iE bE hr3) (pv 11) (pv 1) (by rfl)) (pe_and (pe_cmpR (op_inOwn FC aC iC bC pass0 hr3) (pv 7) (pv 11) (by rfl)) (pe_one (pe_cmpR (op_niOwn FC aC iC bC pass0 hr3) (pv 7) (pv 1) (by rfl)))))))))))))))))))), ?_⟩
    have ns1 : (ns.map V.int).length = ns.length := List.length_map _
    refine ⟨_, rfl, la, _, rfl, .inl (SqL.of ela), ?_⟩
    refine ⟨_, _, rfl, rfl, ⟨by decide, by decide, by decide⟩, (by show 3 ≤ sizeLine; decide), fun E1 hE1 => ⟨_, rfl, la, rfl, ⟨_, SqL.of (new_same hE1 _ _ ela)⟩, fun D0 hD0 => ?_⟩⟩
    have T1 := new_same (o := .lst [.int 0, .int 7, .int (10 ^ Int.toNat 9)]) hE1
    refine lc_list (K := K) (a := la) (xs := is.map V.int) (fun i H2 => Same (upd H E1 (.lst [.int 0, .int 7, .int (10 ^ Int.toNat 9)])) H2 ∧ (upd H E1 (.lst [.int 0, .int 7, .int (10 ^ Int.toNat 9)])) D0 = none ∧ H2 D0 = some (.lst (((is.take i).map fun n => n + 1).map V.int))) ⟨new_same hD0, hD0, upd_same⟩ (fun i H2 _ ⟨S, _⟩ => SqL.of (S _ _ (T1 _ _ ela))) ?_ ?_
    · rintro i y H2 hy ⟨S2, D00, eD⟩
      rw [List.getElem?_map] at hy
      cases hi : is[i]? with
      | none => rw [hi] at hy; cases hy
      | some m' =>
        rw [hi] at hy
        obtain rfl : V.int m' = y := Option.some.inj hy
        have him := (List.getElem?_eq_some_iff.mp hi).1
        refine ⟨rfl, yesT ?_⟩
        refine ⟨_, rfl, _, _, rfl, rfl, _, eD, small1000 ?_, fun b' o e' => ?_, D00, ?_⟩
        · rw [List.length_map, List.length_map, List.length_take]
          omega
        · rw [upd_ne (ne_of_none e' D00)]
          exact S2 _ _ e'
        · rw [upd_same, List.take_add_one, hi, List.map_append, List.map_append]
          rfl
    rintro H2 ⟨S2, D00, eD⟩
    rw [il, List.take_length] at eD
    have S02 := T1.trans S2
    have e1 := S2 _ _ upd_same
    refine ⟨E1, D0, _, _, rfl, rfl, e1, eD, Nat.le_of_lt (small1000 ?_), fun L hL => ?_⟩
    · rw [List.length_map, List.length_map]
      show 3 + is.length ≤ 1000
      omega
    have S3 := S02.trans (new_same (o := .lst ([.int 0, .int 7, .int (10 ^ Int.toNat 9)] ++ (is.map fun n => n + 1).map V.int)) hL)
    have eL : (upd H2 L (.lst ([.int 0, .int 7, .int (10 ^ Int.toNat 9)] ++ (is.map fun n => n + 1).map V.int))) L = some (.lst ((cands is).map V.int)) := upd_same
    generalize upd H2 L (.lst ([.int 0, .int 7, .int (10 ^ Int.toNat 9)] ++ (is.map fun n => n + 1).map V.int)) = H3 at S3 eL
    have ela3 := S3 _ _ ela
    have cl : (cands is).length ≤ 63 := by
      unfold cands
      rw [List.length_append, List.length_map]
      show 3 + is.length ≤ 63
      omega
    refine ⟨L, rfl, ⟨_, SqL.of eL⟩, fun D3 hD3 => ?_⟩
    refine lc_list (K := K) (a := L) (xs := (cands is).map V.int) (fun i H4 => Same H3 H4 ∧ H3 D3 = none ∧ H4 D3 = some (.lst ((((cands is).take i).filter (okN is)).map V.int))) ⟨new_same hD3, hD3, upd_same⟩ (fun i H4 _ ⟨S, _⟩ => SqL.of (S _ _ eL)) ?_ ?_
    · rintro i y H4 hy ⟨S4, D30, eD3⟩
      rw [List.getElem?_map] at hy
      cases hi : (cands is)[i]? with
      | none => rw [hi] at hy; cases hy
      | some m' =>
        rw [hi] at hy
        obtain rfl : V.int m' = y := Option.some.inj hy
        have him := (List.getElem?_eq_some_iff.mp hi).1
        have ft := filter_take1 (p := okN is) hi
        refine ⟨rfl, _, rfl, _, rfl, la, _, rfl, .inl (SqL.of (S4 _ _ ela3)), rfl, ints_flat is, _, rfl, ?_⟩
        have skip : okN is m' = false → Same H3 H4 ∧ H3 D3 = none ∧ H4 D3 = some (.lst ((((cands is).take (i + 1)).filter (okN is)).map V.int)) := fun c => by
          rw [ft, c]
          simp
          exact ⟨S4, D30, eD3⟩
        cases c1 : inV (.int m') (is.map V.int) with
        | true => exact iteF (skip (by unfold okN; rw [c1]; rfl))
        | false =>
          refine iteT ⟨_, rfl, _, _, rfl, rfl, ⟨by decide, by decide, by decide⟩, _, _, rfl, rfl, _, rfl, ifD (fun c2 => ?_) (fun c2 => skip (by unfold okN; rw [c1, decide_eq_false c2]; rfl))⟩
          have ok : okN is m' = true := by unfold okN; rw [c1, decide_eq_true c2]; rfl
          rw [ok] at ft
          refine ⟨_, rfl, _, eD3, small1000 ?_, fun b' o e' => ?_, D30, by rw [upd_same, ft, List.map_append]; rfl⟩
          · rw [List.length_map]
            have := List.length_filter_le (okN is) ((cands is).take i)
            rw [List.length_take] at this
            omega
          · rw [upd_ne (ne_of_none e' D30)]
            exact S4 _ _ e'
    rintro H4 ⟨S4, D30, eD3⟩
    rw [List.length_map, List.take_length] at eD3
    have S04 := S3.trans S4
    have h4 := hh.keep S04
    have D3n := (hh.keep S3).same_h' D30
    -- the label
    refine ⟨_, rfl, _, rfl, h, q, D3, _, rfl, h4, D3n.1, eD3, ?_, ?_, fun H5 lv lm B5 h5 => ?_⟩
    · rw [List.length_map]
      obtain ⟨n, n1, n2⟩ := free_ex asc labs l60
      exact List.length_pos_iff.mpr (List.ne_nil_of_mem (List.mem_filter.mpr ⟨n1, n2⟩))
    · rw [List.length_map]
      have := List.length_filter_le (okN is) (cands is)
      omega
    obtain ⟨lab, labm, rfl⟩ := List.mem_map.mp lm
    obtain ⟨labc, labo⟩ := List.mem_filter.mp labm
    have lab1 : lab ∉ is ∧ lab ≤ 1000000000 := by
      unfold okN at labo
      rw [inV_ints, show (10 : Int) ^ Int.toNat 9 = 1000000000 from rfl] at labo
      simpa using labo
    have lab0 : 0 ≤ lab := by
      unfold cands at labc
      rcases List.mem_append.mp labc with q | q
      · simp only [List.mem_cons, List.not_mem_nil, or_false] at q
        rcases q with q | q | q <;> rw [q] <;> decide
      · obtain ⟨n, hn, rfl⟩ := List.mem_map.mp q
        have := (labs n hn).1
        omega
    clear labm labc labo lm
    have B05 := (But.same (h := h) S04).trans B5
    have ela5 := B05 _ _ nlh ela
    have ebk5 := B05 _ _ nbh ebk
    have g4 := gb.hi
    have g2 := gb.lo
    -- the row
    refine ⟨_, rfl, ((is.map V.int).length : Nat), rfl, by omega, by omega, fun R hR => ?_⟩
    obtain ⟨nRh, nRq⟩ := h5.same_h' hR
    have nRb : R ≠ bk := (ne_of_none ebk5 hR).symm
    refine lc_range (lo := 0) (n := (is.map V.int).length) (fun n H8 => ∃ zs : List Int, zs.length = n ∧ (∀ t ∈ zs, 0 ≤ t ∧ t < (ns.length : Nat)) ∧ H8 R = some (.lst (zs.map V.int)) ∧ Hand H8 h q ∧ (∀ b o, b ≠ h → b ≠ R → H5 b = some o → H8 b = some o))
      ⟨[], rfl, (fun t ht => by simp at ht), upd_same, h5.new hR, fun b o _ n2 e => by rw [upd_ne n2]; exact e⟩ ?_ ?_
    · rintro n H8 hn ⟨zs, zl, zr, eR, h8, B8⟩
      refine ⟨rfl, yesT ?_⟩
      have ebk8 := B8 _ _ nbh nRb.symm ebk5
      refine ⟨_, rfl, _, rfl, bk, _, rfl, .inl (SqL.of ebk8), h, q, _, rfl, by omega, by omega, h8, fun z H9 z0 z1 b9 h9 => ?_⟩
      have eR9 := b9 _ _ nRh eR
      refine ⟨_, eR9, by rw [List.length_map]; exact small1000 (by omega), zs ++ [z], by rw [List.length_append, zl]; rfl, fun t ht => ?_, by rw [upd_same, List.map_append]; rfl, h9.put nRh.symm nRq.symm, fun c o n1 n2 e => by rw [upd_ne n2]; exact b9 _ _ n1 (B8 c o n1 n2 e)⟩
      rcases List.mem_append.mp ht with ht | ht
      · exact zr t ht
      · rw [List.mem_singleton] at ht
        subst ht
        exact ⟨z0, by omega⟩
    rintro H8 ⟨us, ul, ur, eR, h8, B8⟩
    rw [il] at ul
    have R0 : H R = none := B05.free nRh hR
    have B08 : But h H H8 := fun b o nb e => B8 b o nb (ne_of_none e R0) (B05 b o nb e)
    have R8 : But h H H8 := B08
    clear B8 B5 h5 ela5 ebk5 B05 eD3 S4 S3 h4 hR
    have ela8 := B08 _ _ nlh ela
    -- the place
    refine ⟨_, rfl, la, rfl, ⟨_, SqL.of ela8⟩, fun D hD => ?_⟩
    refine lc_list (K := K) (a := la) (xs := is.map V.int) (fun i H2 => Same H8 H2 ∧ H8 D = none ∧ H2 D = some (.lst (((is.take i).filter fun y => decide (y < lab)).map V.int))) ⟨new_same hD, hD, upd_same⟩ (fun i H2 _ ⟨S, _⟩ => SqL.of (S _ _ ela8)) ?_ ?_
    · rintro i y H2 hy ⟨S2, D0', eD⟩
      rw [List.getElem?_map] at hy
      cases hi : is[i]? with
      | none => rw [hi] at hy; cases hy
      | some m' =>
        rw [hi] at hy
        obtain rfl : V.int m' = y := Option.some.inj hy
        have him := (List.getElem?_eq_some_iff.mp hi).1
        refine ⟨rfl, _, rfl, _, rfl, _, _, rfl, rfl, _, rfl, ?_⟩
        have ft := filter_take (n := lab) hi
        refine ifD (fun c1 => ?_) (fun c1 => ?_)
        · rw [if_pos c1] at ft
          refine ⟨_, rfl, _, eD, small1000 ?_, fun b' o e' => ?_, D0', by rw [upd_same, ft, List.map_append]; rfl⟩
          · rw [List.length_map]
            have := List.length_filter_le (fun y => decide (y < lab)) (is.take i)
            rw [List.length_take] at this
            omega
          · rw [upd_ne (ne_of_none e' D0')]
            exact S2 _ _ e'
        · rw [if_neg c1, List.append_nil] at ft
          exact ⟨S2, D0', by rw [ft]; exact eD⟩
    rintro H9 ⟨S9, D0', eD⟩
    rw [il, List.take_length] at eD
    refine ⟨D, _, rfl, .inl (SqL.of eD), ?_⟩
    simp only [List.length_map]
    have pb := below_le (is := is) (n := lab)
    have h9 := h8.keep S9
    have B09 := B08.trans (But.same S9)
    have eR9 := S9 _ _ eR
    have eb : (is.filter fun y => decide (y < lab)).length = below is lab := rfl
    rw [eb]
    have ela9 := B09 _ _ nlh ela
    have ebk9 := B09 _ _ nbh ebk
    -- what is handed over
    refine ⟨fun σ' H' => ∃ u, σ' = [some (.ref h), some (.ref x), some (.ref bk), some (.ref la), some (.ref Tb), some (.int (is.length : Nat)), some (.ref D3), some (.int lab), some (.ref R), some (.int (below is lab : Nat)), some u, none, none, none, none, none, none, none] ∧ Hand H' h q ∧ But h H H' ∧ H' R = some (.lst (us.map V.int)) ∧ ∃ ur, u = .ref ur ∧ ((∃ s, Is H' u s ∧ (s.isL || s.isT) = true ∧ items s = us.map V.int)), ?_, ?_⟩
    · refine ⟨_, rfl, h, q, 2, rfl, by decide, by decide, h9, fun b0 H10 x0 x1 B10 h10 => ⟨rfl, _, rfl, ifD (fun _ => ?_) (fun _ => ?_)⟩⟩
      · refine ⟨_, rfl, R, _, rfl, .inl (SqL.of (B10 _ _ nRh eR9)), fun l hl => ?_⟩
        have T := new_same (o := .lst (us.map V.int)) hl
        exact ⟨.ref l, rfl, h10.keep T, (B09.trans B10).trans (But.same T), T _ _ (B10 _ _ nRh eR9), l, rfl, .lst (us.map V.int), ⟨l, rfl, upd_same⟩, rfl, rfl⟩
      · refine ⟨_, rfl, R, _, rfl, .inl ⟨SqL.of (B10 _ _ nRh eR9), fun l hl => ?_⟩⟩
        have T := new_same (o := .tup (us.map V.int)) hl
        exact ⟨.ref l, rfl, h10.keep T, (B09.trans B10).trans (But.same T), T _ _ (B10 _ _ nRh eR9), l, rfl, .tup (us.map V.int), ⟨l, rfl, upd_same⟩, rfl, rfl⟩
    clear eD eR9 ela9 ebk9 h9 S9 eR h8 ela8 R8 B09 B08 eb hD D0' R0
    rintro σA HA ⟨u, rfl, hA, BA, eRA, l, rfl, sr, hu, sq, hi⟩
    obtain ⟨cs1, i1, r1, t1, eh1, _⟩ := id hh
    have cA := hC.but eh1 BA
    have laA := BA _ _ nlh ela
    have bkA := BA _ _ nbh ebk
    have LA := LT0.but nTh nph BA
    obtain ⟨dxA, _, _, _, _, _, _, _, aA, _⟩ := id cA
    have RR := hC.rows
    have rok : rowW ns.length is.length sr = none := rowW_ok sq hi (by omega) ur
    have ew : wholeB (.int lab) 0 1000000000 = true := by
      show (decide (0 ≤ lab) && decide (lab ≤ 1000000000)) = true
      rw [decide_eq_true lab0, decide_eq_true lab1.2]
      rfl
    have sno : seat is (.int lab) = none := by
      cases e : seat is (.int lab) with
      | none => rfl
      | some j =>
        obtain ⟨m, em, hm, _⟩ := seat_some e
        obtain rfl : lab = m := by injection em
        exact absurd (List.mem_of_getElem? hm) lab1.1
    have kn : Known HA (items sr) := fun y hy => by
      rw [hi] at hy
      obtain ⟨m, _, rfl⟩ := List.mem_map.mp hy
      exact ⟨.sc (.int m), rfl, rfl⟩
    -- the bigger company
    refine ⟨_, rfl, x, dxA, _, rfl, aA, cf_no _ _ _ _ _ (by decide +kernel) (by decide +kernel) (by decide +kernel) (by decide +kernel) (by decide +kernel), _, rfl, _, rfl, x, ns, is, tss, .int lab, .ref l, .sc (.int lab), sr, rfl, cA, gb, ⟨rfl, rfl⟩, hu, kn, fun q => absurd q (by omega), (fun _ q => by rw [ew] at q; cases q), (fun _ j ej => by rw [sno] at ej; cases ej), fun _ n en _ _ => ⟨(fun w q => by rw [rok] at q; cases q), fun _ us' hus HB z SB cB => ?_⟩⟩
    obtain rfl : lab = n := by injection en
    obtain rfl : us = us' := map_int_inj (hi.symm.trans hus)
    have tlu : us.length = tss.length := by omega
    have pt : below is lab ≤ tss.length := by omega
    have sp := insL_seat' asc lab1.1
    have wl : (withR ns us tss (below is lab)).length = is.length + 1 := by rw [withR_len pt, tl]
    have cellW := fun {a b : Nat} (ha : a < is.length + 1) (hb : b < is.length + 1) (ne : a ≠ b) => withR_cell gb RR pt tlu ur (a := a) (b := b) (by omega) (by omega) ne
    have back := withR_back gb RR pt tlu ur
    rw [tl] at cellW back
    have pick := pick_back (is := is) (n := lab)
    have BB := BA.trans (But.same SB)
    have hB := hA.keep SB
    have eRB := SB _ _ eRA
    have skE : ∀ (i : Nat), i < is.length → (insL is lab)[skF (below is lab) i]? = is[i]? := fun i hi => insL_sk hi
    have insE : insL is lab = is.take (below is lab) ++ [lab] ++ is.drop (below is lab) := rfl
    generalize below is lab = p at sp wl cellW back pick cB pb insE skE
    clear pt rok
    -- the order
    have rg1 : RgOk 0 (p : Nat) := RgOk.of_le (by omega) (by omega) (by omega) (by omega)
    have rg2 : RgOk (p : Nat) (is.length : Nat) := RgOk.of_le (by omega) (by omega) (by omega) (by omega)
    refine ⟨_, rfl, ((p : Nat) : Int), rfl, rg1, fun q1 hq1 => ⟨_, rfl, (by show 1 ≤ sizeLine; decide), fun q2 hq2 => ?_⟩⟩
    have V1 := new_same (o := .lst (rgV 0 (p : Nat))) hq1
    have V2 := V1.trans (new_same (o := .lst [.int (is.length : Nat)]) hq2)
    refine ⟨q1, q2, _, _, rfl, rfl, new_same hq2 _ _ upd_same, upd_same, Nat.le_of_lt (small1000 (by rw [rgV_length]; show _ + 1 ≤ 1000; omega)), fun q3 hq3 => ?_⟩
    have V3 := V2.trans (new_same (o := .lst (rgV 0 (p : Nat) ++ [.int (is.length : Nat)])) hq3)
    refine ⟨_, rfl, _, rfl, ((p : Nat) : Int), ((is.length : Nat) : Int), rfl, rfl, rg2, fun q4 hq4 => ?_⟩
    have V4 := V3.trans (new_same (o := .lst (rgV (p : Nat) (is.length : Nat))) hq4)
    refine ⟨q3, q4, _, _, rfl, rfl, new_same hq4 _ _ upd_same, upd_same, Nat.le_of_lt (small1000 (by rw [List.length_append, rgV_length, rgV_length]; show _ + 1 + _ ≤ 1000; omega)), fun q5' hq5 => ?_⟩
    have W5 := V4.trans (new_same (o := .lst (rgV 0 (p : Nat) ++ [.int (is.length : Nat)] ++ rgV (p : Nat) (is.length : Nat))) hq5)
    have ordE : rgV 0 (p : Nat) ++ [.int (is.length : Nat)] ++ rgV (p : Nat) (is.length : Nat) = (ordL p is.length).map fun j : Nat => V.int (j : Nat) := by
      unfold ordL rgV
      rw [List.map_append, List.map_append, List.map_map]
      congr 1
      · congr 1
        rw [show (((p : Nat) : Int) - 0).toNat = p by omega]
        refine List.map_congr_left fun i _ => by rw [Int.zero_add]
      · rw [show (((is.length : Nat) : Int) - ((p : Nat) : Int)).toNat = is.length - p by omega]
        refine List.map_congr_left fun i _ => by simp
    rw [ordE] at W5 ⊢
    have eO : (upd (upd (upd (upd (upd HB q1 (.lst (rgV 0 (p : Nat)))) q2 (.lst [.int (is.length : Nat)])) q3 (.lst (rgV 0 (p : Nat) ++ [.int (is.length : Nat)]))) q4 (.lst (rgV (p : Nat) (is.length : Nat)))) q5' (.lst ((ordL p is.length).map fun j : Nat => V.int (j : Nat)))) q5' = some (.lst ((ordL p is.length).map fun j : Nat => V.int (j : Nat))) := upd_same
    generalize upd (upd (upd (upd (upd HB q1 (.lst (rgV 0 (p : Nat)))) q2 (.lst [.int (is.length : Nat)])) q3 (.lst (rgV 0 (p : Nat) ++ [.int (is.length : Nat)]))) q4 (.lst (rgV (p : Nat) (is.length : Nat)))) q5' (.lst ((ordL p is.length).map fun j : Nat => V.int (j : Nat))) = HC at W5 eO
    have SC := SB.trans W5
    have LC := LA.keep SC
    have bkC := SC _ _ bkA
    have laC := SC _ _ laA
    have eRC := SC _ _ eRA
    have cC := cB.keep W5
    -- the table with the newcomer behind all
    have lpl := LC.2.1
    rw [tabOf_len] at lpl
    have wlow : ∀ {i : Nat} (hi : i < is.length), (List.range is.length).map (tieF ns tss i) ++ [(ns[((us[i]?).getD 0).toNat]?).getD 0] = (List.range (is.length + 1)).map (wF (tieF ns tss) ns us is.length i) := fun {i} hi => by
      rw [List.range_succ, List.map_append]
      congr 1
      · refine List.map_congr_left fun b hb => ?_
        rw [List.mem_range] at hb
        unfold wF
        rw [if_pos hi, if_pos hb]
      · show _ = [wF (tieF ns tss) ns us is.length i is.length]
        unfold wF
        rw [if_pos hi, if_neg (Nat.lt_irrefl _)]
    have wtop : us ++ [-1] = (List.range (is.length + 1)).map (wF (tieF ns tss) ns us is.length is.length) := by
      rw [List.range_succ, List.map_append]
      congr 1
      · refine List.ext_getElem? fun b => ?_
        rcases Nat.lt_or_ge b is.length with hb | hb
        · rw [List.getElem?_map, List.getElem?_range hb]
          show _ = some (wF (tieF ns tss) ns us is.length is.length b)
          unfold wF
          rw [if_neg (Nat.lt_irrefl _), if_pos hb, List.getElem?_eq_getElem (by omega)]
          rfl
        · rw [List.getElem?_eq_none (by omega), List.getElem?_eq_none (by rw [List.length_map, List.length_range]; exact hb)]
      · show _ = [wF (tieF ns tss) ns us is.length is.length is.length]
        unfold wF
        rw [if_neg (Nat.lt_irrefl _), if_neg (Nat.lt_irrefl _)]
    refine ⟨_, rfl, ((is.length : Nat) : Int), rfl, by omega, by omega, fun D hD => ?_⟩
    refine lc_range (lo := 0) (n := is.length) (fun i G => ∃ qs, qs.length = i ∧ Grow HC G D qs ((tabOf (wF (tieF ns tss) ns us is.length) (is.length + 1)).take i)) ⟨[], rfl, by rw [List.take_zero]; exact .nil hD⟩ ?_ ?_
    · rintro i G hi ⟨qs, ql, g⟩
      have ep := List.getElem?_eq_getElem (l := ps) (i := i) (by omega)
      generalize ps[i]'(by omega) = pj at ep
      obtain ⟨_, row⟩ := LC.2.2 i pj _ ep (tabOf_at hi)
      have eu := List.getElem?_eq_getElem (l := us) (i := i) (by omega)
      have ub := ur _ (List.mem_of_getElem? eu)
      have eu0 : (us[i]?).getD 0 = us[i]'(by omega) := by rw [eu]; rfl
      have wl' := wlow hi
      rw [eu0] at wl'
      generalize us[i]'(by omega) = ui at eu ub eu0 wl'
      have en := List.getElem?_eq_getElem (l := ns) (i := ui.toNat) (by omega)
      have en0 : (ns[ui.toNat]?).getD 0 = ns[ui.toNat]'(by omega) := by rw [en]; rfl
      refine ⟨rfl, yesT ?_⟩
      refine ⟨_, rfl, _, rfl, Tb, _, _, _, rfl, rfl, SqL.of (g.S _ _ LC.1), at_of (j := i) (v := .ref pj) (by omega) (by rw [List.getElem?_map, ep]; rfl), _, rfl, _, rfl, _, rfl, R, _, _, _, rfl, rfl, SqL.of (g.S _ _ eRC), at_of (j := i) (v := .int ui) (by omega) (by rw [List.getElem?_map, eu]; rfl), bk, _, _, _, rfl, rfl, SqL.of (g.S _ _ bkC), at_of (j := ui.toNat) (v := .int (ns[ui.toNat]'(by omega))) (Int.toNat_of_nonneg ub.1).symm (by rw [List.getElem?_map, en]; rfl), (by show 1 ≤ sizeLine; decide), fun z1 hz1 => ?_⟩
      have S1 := new_same (o := .lst [.int (ns[ui.toNat]'(by omega))]) hz1
      refine ⟨pj, z1, _, _, rfl, rfl, S1 _ _ (g.S _ _ row), upd_same, Nat.le_of_lt (small1000 (by rw [List.length_map, List.length_map, List.length_range]; show _ + 1 ≤ 1000; omega)), fun z2 hz2 => ?_⟩
      have rowE : ((List.range is.length).map (tieF ns tss i)).map V.int ++ [.int (ns[ui.toNat]'(by omega))] = ((List.range (is.length + 1)).map (wF (tieF ns tss) ns us is.length i)).map V.int := by
        rw [← wl', List.map_append, en0]
        rfl
      rw [rowE]
      have S2 := S1.trans (new_same (o := .lst (((List.range (is.length + 1)).map (wF (tieF ns tss) ns us is.length i)).map V.int)) hz2)
      refine ⟨_, S2 _ _ g.L.1, small1000 (by rw [List.length_map]; omega), qs ++ [z2], by rw [List.length_append, ql]; rfl, ?_⟩
      have tk : (tabOf (wF (tieF ns tss) ns us is.length) (is.length + 1)).take (i + 1) = (tabOf (wF (tieF ns tss) ns us is.length) (is.length + 1)).take i ++ [(List.range (is.length + 1)).map (wF (tieF ns tss) ns us is.length i)] := by
        rw [List.take_add_one, tabOf_at (by omega)]
        rfl
      rw [tk]
      exact g.snoc S2 (S1.free hz2) upd_same
    rintro HD' ⟨qs, ql, g⟩
    -- its own row
    refine ⟨_, rfl, .inl ⟨rfl, _, SqL.of g.L.1⟩, _, rfl, _, rfl, (by show 1 ≤ sizeLine; decide), fun z1 hz1 => ?_⟩
    have S1 := new_same (o := .lst [.int (-1)]) hz1
    refine ⟨R, z1, _, _, rfl, rfl, S1 _ _ (g.S _ _ eRC), upd_same, Nat.le_of_lt (small1000 (by rw [List.length_map]; show _ + 1 ≤ 1000; omega)), fun z2 hz2 => ?_⟩
    have rowE : us.map V.int ++ [.int (-1)] = ((List.range (is.length + 1)).map (wF (tieF ns tss) ns us is.length is.length)).map V.int := by
      rw [← wtop, List.map_append]
      rfl
    rw [rowE]
    have S2 := S1.trans (new_same (o := .lst (((List.range (is.length + 1)).map (wF (tieF ns tss) ns us is.length is.length)).map V.int)) hz2)
    have g2 := g.snoc S2 (S1.free hz2) upd_same
    have tk : (tabOf (wF (tieF ns tss) ns us is.length) (is.length + 1)).take is.length ++ [(List.range (is.length + 1)).map (wF (tieF ns tss) ns us is.length is.length)] = tabOf (wF (tieF ns tss) ns us is.length) (is.length + 1) := by
      have q : (tabOf (wF (tieF ns tss) ns us is.length) (is.length + 1)).take (is.length + 1) = tabOf (wF (tieF ns tss) ns us is.length) (is.length + 1) := List.take_of_length_le (by rw [tabOf_len]; exact Nat.le_refl _)
      rw [List.take_add_one, tabOf_at (by omega)] at q
      exact q
    rw [tk] at g2
    refine ⟨D, _, _, rfl, rfl, S2 _ _ g.L.1, small1000 (by rw [List.length_map]; omega), ?_⟩
    generalize upd (upd (upd HD' z1 (.lst [.int (-1)])) z2 (.lst (((List.range (is.length + 1)).map (wF (tieF ns tss) ns us is.length is.length)).map V.int))) D (.lst (qs.map V.ref ++ [.ref z2])) = HE at g2
    generalize qs ++ [z2] = ws at g2
    clear g tk S2 S1 wtop wlow hz1 hz2
    have SE := SC.trans g2.S
    have laE := g2.S _ _ laC
    have lm : (is.map V.int).length = is.length := List.length_map _
    -- the labels with the newcomer's
    refine ⟨_, rfl, _, rfl, _, rfl, la, _, rfl, SqL.of laE, fun q1 hq1 => ?_⟩
    rw [cut_take (by rw [lm]; exact pb)]
    have V1 := new_same (o := .lst ((is.map V.int).take p)) hq1
    have e1 : (upd HE q1 (.lst ((is.map V.int).take p))) q1 = some (.lst ((is.map V.int).take p)) := upd_same
    generalize upd HE q1 (.lst ((is.map V.int).take p)) = H1 at V1 e1
    refine ⟨_, rfl, (by show 1 ≤ sizeLine; decide), fun q2 hq2 => ?_⟩
    have V2 := new_same (o := .lst [.int lab]) hq2
    refine ⟨q1, q2, _, _, rfl, rfl, V2 _ _ e1, upd_same, Nat.le_of_lt (small1000 (by rw [List.length_take]; show _ + 1 ≤ 1000; omega)), fun q3 hq3 => ?_⟩
    have V3 := V2.trans (new_same (o := .lst ((is.map V.int).take p ++ [.int lab])) hq3)
    have e3 : (upd (upd H1 q2 (.lst [.int lab])) q3 (.lst ((is.map V.int).take p ++ [.int lab]))) q3 = some (.lst ((is.map V.int).take p ++ [.int lab])) := upd_same
    generalize upd (upd H1 q2 (.lst [.int lab])) q3 (.lst ((is.map V.int).take p ++ [.int lab])) = H3 at V3 e3
    have V13 := V1.trans V3
    refine ⟨_, rfl, _, rfl, _, rfl, la, _, rfl, SqL.of (V13 _ _ laE), fun q4 hq4 => ?_⟩
    rw [cut_drop (by rw [lm]; exact pb)]
    have V4 := new_same (o := .lst ((is.map V.int).drop p)) hq4
    refine ⟨q3, q4, _, _, rfl, rfl, V4 _ _ e3, upd_same, Nat.le_of_lt (small1000 (by rw [List.length_append, List.length_take, List.length_drop]; show _ + 1 + _ ≤ 1000; omega)), fun q5 hq5 => ?_⟩
    have newE : (is.map V.int).take p ++ [.int lab] ++ (is.map V.int).drop p = (insL is lab).map V.int := by
      rw [insE, List.map_append, List.map_append, List.map_take, List.map_drop]
      rfl
    rw [newE]
    have V5 := (V13.trans V4).trans (new_same (o := .lst ((insL is lab).map V.int)) hq5)
    have e5 : (upd (upd H3 q4 (.lst ((is.map V.int).drop p))) q5 (.lst ((insL is lab).map V.int))) q5 = some (.lst ((insL is lab).map V.int)) := upd_same
    generalize upd (upd H3 q4 (.lst ((is.map V.int).drop p))) q5 (.lst ((insL is lab).map V.int)) = HF at V5 e5
    have SF := SE.trans V5
    have SBF : Same HB HF := (W5.trans g2.S).trans V5
    have cF := cB.keep SBF
    have inl : (insL is lab).length = is.length + 1 := insL_len
    have ole : (ordL p is.length).length = is.length + 1 := ordL_len pb
    -- is it the bigger one
    refine ⟨_, rfl, _, rfl, _, rfl, _, rfl, _, rfl, D, q5', ws, wF (tieF ns tss) ns us is.length, is.length + 1, ordL p is.length, rfl, g2.L.keep V5, V5 _ _ (g2.S _ _ eO), by omega, ordL_lt pb, fun HG DG gs gG => ?_⟩
    have LG := gG.L
    have fG : ∀ a b, a < (insL is lab).length → b < (insL is lab).length → a ≠ b → wF (tieF ns tss) ns us is.length (((ordL p is.length)[a]?).getD 0) (((ordL p is.length)[b]?).getD 0) = cellI ns (withR ns us tss p) a b := fun a b ha hb ne => by
      rw [ordL_at pb (by omega), ordL_at pb (by omega)]
      exact cellW (by omega) (by omega) ne
    rw [ole, ← inl] at LG
    have S1G := SF.trans gG.S
    refine ⟨z, bk, q5, DG, gs, _, ns, insL is lab, withR ns us tss p, rfl, cF.keep gG.S, gb, S1G _ _ bkA, gG.S _ _ e5, LG, fG, fun HH SH => ⟨_, rfl, iteF ?_⟩⟩
    have S1H := S1G.trans SH
    have eRH := S1H _ _ eRA
    -- nothing is changed
    have sq2 : SqL K HH l (us.map V.int) ∨ SqT K HH l (us.map V.int) := by
      have hu := hu.keep S1H
      cases sr with
      | sc u => cases sq
      | dk => cases sq
      | lst xs =>
        obtain ⟨l', e', q⟩ := hu
        obtain rfl : l = l' := V.ref.inj e'
        obtain rfl : xs = _ := hi
        exact .inl (SqL.of q)
      | tup xs =>
        obtain ⟨l', e', q⟩ := hu
        obtain rfl : l = l' := V.ref.inj e'
        obtain rfl : xs = _ := hi
        exact .inr (SqT.of q)
    refine ⟨_, rfl, l, _, rfl, sq2, fun y1 hy1 => ?_⟩
    have X1 := new_same (o := .lst (us.map V.int)) hy1
    refine ⟨_, rfl, _, _, .lst (SqL.of upd_same) (dp_ints us), .lst (SqL.of (X1 _ _ eRH)) (dp_ints us), shaped_li us, shaped_li us, _, rfl, if_fa (by rw [eqv_li]; simp) ?_⟩
    generalize upd HH y1 (.lst (us.map V.int)) = HI at X1
    have S1I := S1H.trans X1
    have cI := cF.keep ((gG.S.trans SH).trans X1)
    obtain ⟨dz, _, _, _, _, _, _, _, zI, _⟩ := id cI
    -- its row
    refine ⟨_, rfl, z, dz, _, rfl, zI, cf_no _ _ _ _ _ (by decide +kernel) (by decide +kernel) (by decide +kernel) (by decide +kernel) (by decide +kernel), _, rfl, z, ns, insL is lab, withR ns us tss p, .int lab, .sc (.int lab), rfl, cI, ⟨rfl, rfl⟩, (fun q => by rw [sp] at q; cases q), fun j ej HJ y2 ys SJ ey ro => ?_⟩
    obtain rfl : p = j := by rw [sp] at ej; exact Option.some.inj ej
    have RW := cI.rows
    have rowI := rowOf_ints (f := fun a b => wF (tieF ns tss) ns us is.length (((ordL p is.length)[a]?).getD 0) (((ordL p is.length)[b]?).getD 0)) gb RW (by rw [wl, inl]) (by omega) ro fG
    have rowU : (butJ (insL is lab).length p).map (fun b => wF (tieF ns tss) ns us is.length (((ordL p is.length)[p]?).getD 0) (((ordL p is.length)[b]?).getD 0)) = us := by
      rw [inl, butJ_skip (by omega), List.map_map]
      refine List.ext_getElem? fun b => ?_
      rcases Nat.lt_or_ge b is.length with hb | hb
      · rw [List.getElem?_map, List.getElem?_range (by omega)]
        show some (wF (tieF ns tss) ns us is.length (((ordL p is.length)[p]?).getD 0) (((ordL p is.length)[skF p b]?).getD 0)) = _
        rw [ordL_at pb (by omega), ordL_at pb (by unfold skF; split <;> omega)]
        show some (wF (tieF ns tss) ns us is.length (ordF p is.length p) (ordF p is.length (skF p b))) = _
        rw [ordF_sk pb hb, show ordF p is.length p = is.length by unfold ordF; rw [if_neg (Nat.lt_irrefl _), if_pos rfl]]
        unfold wF
        rw [if_neg (Nat.lt_irrefl _), if_pos hb, List.getElem?_eq_getElem (by omega)]
        rfl
      · rw [List.getElem?_eq_none (by rw [List.length_map, List.length_range]; omega), List.getElem?_eq_none (by omega)]
    have rowI : ys = ((butJ (insL is lab).length p).map (fun b => wF (tieF ns tss) ns us is.length (((ordL p is.length)[p]?).getD 0) (((ordL p is.length)[b]?).getD 0))).map V.int := rowI
    rw [rowU] at rowI
    subst rowI
    refine ⟨y2, _, rfl, .inr (SqT.of ey), fun y3 hy3 => ?_⟩
    have X3 := SJ.trans (new_same (o := .lst (us.map V.int)) hy3)
    have S1K := S1I.trans X3
    refine ⟨_, rfl, _, _, .lst (SqL.of upd_same) (dp_ints us), .lst (SqL.of (S1K _ _ eRA)) (dp_ints us), shaped_li us, shaped_li us, _, rfl, if_fa (by rw [eqv_li]; simp) ?_⟩
    generalize upd HJ y3 (.lst (us.map V.int)) = HK at X3 S1K
    have cK := cI.keep X3
    obtain ⟨dz2, _, _, _, _, _, _, _, zK, _⟩ := id cK
    have xK := cA.keep S1K
    -- without the newcomer
    refine ⟨_, rfl, z, dz2, _, rfl, zK, cf_no _ _ _ _ _ (by decide +kernel) (by decide +kernel) (by decide +kernel) (by decide +kernel) (by decide +kernel), _, rfl, z, ns, insL is lab, withR ns us tss p, .int lab, .sc (.int lab), rfl, cK, gb, ⟨rfl, rfl⟩, (fun q => by rw [sp] at q; cases q), fun j ej HL z2 SL c2 => ?_⟩
    obtain rfl : p = j := by rw [sp] at ej; exact Option.some.inj ej
    rw [inl, pick, back] at c2
    have xL := xK.keep SL
    obtain ⟨dz3, _, _, _, _, _, _, _, zL, _⟩ := id c2
    obtain ⟨dxL, _, _, _, _, _, _, _, xL1, _⟩ := id xL
    refine ⟨_, rfl, z2, x, _, _, _, _, rfl, rfl, zL, xL1, ⟨z2, x, ns, ns, is, is, tss, tss, rfl, c2, xL, _, rfl, _, rfl, if_fa (by simp) ?_⟩⟩
    -- the part of the old guests
    have S1L := S1K.trans SL
    have cL := cK.keep SL
    obtain ⟨dz4, _, _, _, _, _, _, _, zL4, _⟩ := id cL
    have laL := S1L _ _ laA
    have seats : ∀ (i : Nat) (hi : i < is.length), seat (insL is lab) (.int is[i]) = some (skF p i) := fun i hi => by
      refine seat_at (insL_asc asc fun y hy e => lab1.1 (by rw [← e]; exact hy)) ?_
      rw [skE i hi, List.getElem?_eq_getElem hi]
    refine ⟨_, rfl, z, dz4, _, rfl, zL4, cf_no _ _ _ _ _ (by decide +kernel) (by decide +kernel) (by decide +kernel) (by decide +kernel) (by decide +kernel), _, rfl, z, ns, insL is lab, withR ns us tss p, .ref la, .lst (is.map V.int), rfl, cL, gb, ⟨la, rfl, laL⟩, rfl, ints_known is, (by show (is.map V.int).length ≤ 900; omega), fun i y ey ny _ => ?_, fun _ js jpw jmem HM z3 SM c3 => ?_⟩
    · have ey : (is.map V.int)[i]? = some y := ey
      have hi := (List.getElem?_eq_some_iff.mp ey).1
      rw [lm] at hi
      rw [List.getElem?_map, List.getElem?_eq_getElem hi] at ey
      obtain rfl : V.int is[i] = y := Option.some.inj ey
      rw [seats i hi] at ny
      cases ny
    have jsE : js = butJ (is.length + 1) p := by
      refine lt_ext jpw (butJ_lt _ _) fun j => (jmem j).trans ?_
      rw [butJ_skip (by omega), List.mem_map]
      constructor
      · rintro ⟨y, hy, ej⟩
        have hy : y ∈ is.map V.int := hy
        obtain ⟨i, ei⟩ := List.getElem?_of_mem hy
        have hi := (List.getElem?_eq_some_iff.mp ei).1
        rw [lm] at hi
        rw [List.getElem?_map, List.getElem?_eq_getElem hi] at ei
        obtain rfl : V.int is[i] = y := Option.some.inj ei
        rw [seats i hi] at ej
        exact ⟨i, List.mem_range.mpr (by omega), Option.some.inj ej⟩
      · rintro ⟨i, hi, rfl⟩
        rw [List.mem_range] at hi
        have hi : i < is.length := by omega
        exact ⟨.int is[i], List.mem_map.mpr ⟨_, List.getElem_mem hi, rfl⟩, seats i hi⟩
    subst jsE
    rw [pick, back] at c3
    have xM := xL.keep SM
    obtain ⟨dz5, _, _, _, _, _, _, _, zM, _⟩ := id c3
    obtain ⟨dxM, _, _, _, _, _, _, _, xM1, _⟩ := id xM
    refine ⟨_, rfl, z3, x, _, _, _, _, rfl, rfl, zM, xM1, ⟨z3, x, ns, ns, is, is, tss, tss, rfl, c3, xM, _, rfl, _, rfl, if_fa (by simp) ?_⟩⟩
    -- it is another company
    have cM := cL.keep SM
    obtain ⟨dz6, _, _, _, _, _, _, _, zM6, _⟩ := id cM
    have nei : ¬ (insL is lab = is) := fun q => by
      have := congrArg List.length q
      omega
    refine ⟨_, rfl, _, rfl, z, x, _, _, _, _, rfl, rfl, zM6, xM1, ⟨z, x, ns, ns, insL is lab, is, withR ns us tss p, tss, rfl, cM, xM, _, rfl, _, rfl, if_tr (by simp [nei]) ?_⟩⟩
    refine ⟨_, rfl, _, rfl, z, dz6, _, rfl, zM6, ⟨z, ns, insL is lab, withR ns us tss p, .int lab, .sc (.int lab), rfl, cM, ⟨rfl, rfl⟩, _, rfl, _, rfl, if_tr (by rw [sp]; rfl) ?_⟩⟩
    refine ⟨_, rfl, _, rfl, x, dxM, _, rfl, xM1, ⟨x, ns, is, tss, .int lab, .sc (.int lab), rfl, xM, ⟨rfl, rfl⟩, _, rfl, ?_⟩⟩
    rw [sno]
    exact k _ (BA.trans (But.same (S1L.trans SM))) (hA.keep (S1L.trans SM))
end
end J

set_option Elab.async false
set_option linter.all false
set_option maxRecDepth 100000
set_option maxHeartbeats 8000000
namespace J
open PySem PySem.Spec PyProof.Rows L2
abbrev s_law : Stmt := top 35
theorem sc_law : FnScope ["_law_script", "_law_hand_here", "_law_turn", "_law_backs_here", "_law_many", "_law_labels_here", "_law_rows_here", "_law_table", "_law_company_here", "_law_chosen", "_law_places", "_law_handed", "_law_part_here", "_law_j", "_law_rest", "_law_odd", "_law_i", "_law_k", "_law_place", "_law_label"] ["_law_script"] (defScope s_law) := ⟨rfl, rfl, rfl, by decide +kernel, rfl, by decide +kernel, by decide +kernel⟩
def spLaw (K : PySem.W.Frag) : Sp := fun vs H Q _ => ∃ (a : Addr) (ns : List Int), vs = [.ref a] ∧ SqL K H a (ns.map V.int) ∧ ns.length ≤ 63 ∧ ∀ H', Q (.bl true) H'
theorem subT_cell {ns : List Int} {tss : List (List Int)} {js : List Nat} {a b x y : Nat} (g : GoodB ns) (R : Rows ns.length tss) (hj : ∀ j ∈ js, j < tss.length) (nd : js.Nodup) (ea : js[a]? = some x) (eb : js[b]? = some y) (ne : a ≠ b) : cell ns (subT ns tss js js.length) a b = cell ns tss x y := by
  have xy := nodup_ne nd ne ea eb
  have hx := hj _ (List.mem_of_getElem? ea)
  have hy := hj _ (List.mem_of_getElem? eb)
  have la := (List.getElem?_eq_some_iff.mp ea).1
  have lb := (List.getElem?_eq_some_iff.mp eb).1
  have row : ∀ {a b x y : Nat}, js[a]? = some x → js[b]? = some y → a < js.length → b < a → (((subT ns tss js js.length)[a]?).getD [])[b]? = some (cellI ns tss x y) := by
    intro a b x y ea eb la c
    unfold subT
    rw [List.getElem?_map, List.getElem?_range la]
    show (rowT ns tss js a)[b]? = _
    unfold rowT
    rw [List.getElem?_map, List.getElem?_range c, ea]
    show some (cellI ns tss x ((js[b]?).getD 0)) = _
    rw [eb]
    rfl
  rw [(cell_int g R hx hy xy).1]
  unfold cell
  rcases Nat.lt_or_ge b a with c | c
  · rw [if_pos c, row ea eb la c]
  · rw [if_neg (by omega), if_pos (by omega), row eb ea lb (by omega)]
    show V.int (ns[(cellI ns tss y x).toNat]?.getD 0) = _
    rw [cellI_inv g R hy hx (fun e => xy e.symm)]
    rfl
theorem subT_cellI {ns : List Int} {tss : List (List Int)} {js : List Nat} {a b : Nat} (g : GoodB ns) (R : Rows ns.length tss) (hj : ∀ j ∈ js, j < tss.length) (nd : js.Nodup) (ha : a < js.length) (hb : b < js.length) (ne : a ≠ b) :
    tieF ns tss ((js[a]?).getD 0) ((js[b]?).getD 0) = cellI ns (subT ns tss js js.length) a b := by
  have ea := List.getElem?_eq_getElem ha
  have eb := List.getElem?_eq_getElem hb
  have xy := nodup_ne nd ne ea eb
  have e := subT_cell g R hj nd ea eb ne
  have sl : (subT ns tss js js.length).length = js.length := by simp [subT]
  rw [(cell_int g R (hj _ (List.mem_of_getElem? ea)) (hj _ (List.mem_of_getElem? eb)) xy).1, (cell_int g (subT_rows g R hj nd) (by omega) (by omega) ne).1] at e
  rw [ea, eb]
  show tieF ns tss js[a] js[b] = _
  unfold tieF
  rw [if_neg (fun q => xy q.symm)]
  injection e with e
  exact e.symm
theorem nats_ints (cs : List Nat) : (cs.map fun j : Nat => V.int (j : Nat)) = (cs.map fun j : Nat => (j : Int)).map V.int := by
  rw [List.map_map]
  rfl
theorem nats_flat (cs : List Nat) : (cs.map fun j : Nat => V.int (j : Nat)).all flatV = true := by
  rw [nats_ints]
  exact ints_flat _
theorem inV_nats {cs : List Nat} {i : Nat} : inV (.int (i : Nat)) (cs.map fun j : Nat => V.int (j : Nat)) = decide (i ∈ cs) := by
  rw [nats_ints, inV_ints]
  refine decide_eq_decide.mpr ?_
  rw [List.mem_map]
  constructor
  · rintro ⟨j, hj, e⟩
    have : j = i := by omega
    rw [← this]
    exact hj
  · exact fun h => ⟨i, h, rfl⟩
/-- what stands behind the company of a turn -/
structure LawSt (C CC h q x bk la T : Addr) (ps : List Addr) (ns is : List Int) (tss : List (List Int)) (H : Hp) : Prop where
  hd : Hand H h q
  c : CompAt C CC H x ns is tss
  gb : GoodB ns
  eb : H bk = some (.lst (ns.map V.int))
  el : H la = some (.lst (is.map V.int))
  L : LinesAt H T ps (tabOf (tieF ns tss) is.length)
  nb : bk ≠ h
  nl : la ≠ h
  nT : T ≠ h
  np : ∀ p ∈ ps, p ≠ h
  l : is.length ≤ 50
theorem LawSt.but {C CC h q x bk la T : Addr} {ps : List Addr} {ns is : List Int} {tss : List (List Int)} {H H' : Hp} (s : LawSt C CC h q x bk la T ps ns is tss H) (B : But h H H') (h' : Hand H' h q) : LawSt C CC h q x bk la T ps ns is tss H' := by
  obtain ⟨cs1, i1, r1, t1, eh1, _⟩ := id s.hd
  exact ⟨h', s.c.but eh1 B, s.gb, B _ _ s.nb s.eb, B _ _ s.nl s.el, s.L.but s.nT s.np B, s.nb, s.nl, s.nT, s.np, s.l⟩
theorem LawSt.same {C CC h q x bk la T : Addr} {ps : List Addr} {ns is : List Int} {tss : List (List Int)} {H H' : Hp} (s : LawSt C CC h q x bk la T ps ns is tss H) (S : Same H H') : LawSt C CC h q x bk la T ps ns is tss H' := s.but (But.same S) (s.hd.keep S)
theorem CompAt.meth {C CC : Addr} {H : Hp} {x : Addr} {ns is : List Int} {tss : List (List Int)} (h : CompAt C CC H x ns is tss) : ∃ dx t g r b p, H x = some (.ins CC dx (cf t g r b p)) := by
  obtain ⟨dx, t, g, r, b, p, _, _, a1, _⟩ := h
  exact ⟨dx, t, g, r, b, p, a1⟩
theorem CompAt.facts {C CC : Addr} {H : Hp} {x : Addr} {ns is : List Int} {tss : List (List Int)} (h : CompAt C CC H x ns is tss) : Asc is ∧ tss.length = is.length ∧ is.length ≤ 60 ∧ ∀ n ∈ is, 0 ≤ n ∧ n ≤ 1000000000 := by
  obtain ⟨dx, t, g, r, b, p, _, _, _, _, _, _, _, _, _, asc, tl, l60, labs⟩ := h
  exact ⟨asc, tl, l60, labs⟩
section
variable {P : Program} {w : World} {K : PySem.W.Frag} {mg : Str → Option Value} {base : Heap}
theorem ok_law {f C CC CN fH fD fK fL fT fCo fI fPt fN fP fRf fPa fW : Addr} {fd fdH fdD fdK fdL fdT fdCo fdI fdPt fdN fdP fdRf fdPa fdW : FuncData} (F : Fun K "law" "law" s_law f fd) (c : CoC K CC) (nl : mg "len" = none) (nr : mg "range" = none) (nt : mg "tuple" = none)
    (GH : Cal P w K mg base CX0 1 "_law_hand" fH fdH ["_law_script"] (spHand K)) (GD : Cal P w K mg base CX0 2 "_law_draw" fD fdD ["_law_hand_here", "_law_many"] spDraw) (GK : Cal P w K mg base CX0 3 "_law_backs" fK fdK ["_law_hand_here", "_law_many"] spBacks)
    (GL : Cal P w K mg base CX0 3 "_law_labels" fL fdL ["_law_hand_here", "_law_many"] spLabels) (GT : Cal P w K mg base CX0 1 "_law_table_of" fT fdT ["_law_backs_here", "_law_rows_here"] spLTab) (GCo : Cal P w K mg base CX0 7 "_law_company" fCo fdCo ["_law_backs_here", "_law_labels_here", "_law_table"] (spLComp C CC))
    (GI : Cal P w K mg base CX0 6 "_law_is" fI fdI ["_law_company_here", "_law_backs_here", "_law_labels_here", "_law_table"] (spLIs C CC)) (GPt : Cal P w K mg base CX0 1 "_law_part" fPt fdPt ["_law_table", "_law_places"] spLPart)
    (GN : Cal P w K mg base CX0 9 "_law_newcomer" fN fdN ["_law_hand_here", "_law_company_here", "_law_backs_here", "_law_labels_here", "_law_table"] (spNew C CC)) (GP : Cal P w K mg base CX0 3 "_law_pick" fP fdP ["_law_hand_here", "_law_things"] spPick) (GRf : Cal P w K mg base CX0 9 "_law_refused" fRf fdRf ["_law_company_here", "_law_way", "_law_thing", "_law_labels_here"] (spLRef C CC))
    (GPa : Mt P w K mg base (L2.CX P w) 8 CC "part_of" fPa fdPa ["self", "labels"] (spPart C CC CN)) (GW : Mt P w K mg base (L2.CX P w) 8 CC "without" fW fdW ["self", "label"] (spWo C CC CN)) : FnOk P w K mg base CX0 10 f fd ["_law_script"] (spLaw K) := by
  refine F.ok sc_law (fun vs H Q E h => ?_) (fun cdv A outer s H vs Q E hr h => ?_)
  · obtain ⟨a, ns, rfl, _⟩ := h
    rfl
  · obtain ⟨a, ns, rfl, hS, hn, k⟩ := h
    refine ⟨_, (pss_cons 
  (ps_set (i := 1) sc_law.nd rfl (Or.inr rfl) (pcal GH hr pass0 (pa_cons (pv 0) pa_nil))) (pss_cons 
  (ps_for PassesOwn.never rfl (pi_range1 (by rfl) nr (pa_cons pe_int pa_nil)) (pg_name (i := 2) sc_law.nd rfl (Or.inl rfl)) (pss_cons 
    (ps_set (i := 3) sc_law.nd rfl (Or.inr rfl) (pcal GK hr pass0 (pa_cons (pv 1) (pa_cons (pe_op op_add pe_int (pcal GD hr pass0 (pa_cons (pv 1) (pa_cons pe_int pa_nil)))) pa_nil)))) (C8.pss_cut 
    (ps_set (i := 4) sc_law.nd rfl (Or.inr rfl) (pe_ifExp (pt_cmpR op_gt (pcal GD hr pass0 (pa_cons (pv 1) (pa_cons pe_int pa_nil))) pe_int (nomark _)) (pcal GD hr pass0 (pa_cons (pv 1) (pa_cons pe_int pa_nil))) (pe_op op_add pe_int (pcal GD hr pass0 (pa_cons (pv 1) (pa_cons pe_int pa_nil)))))) (pss_cons 
    (ps_set (i := 5) sc_law.nd rfl (Or.inr rfl) (pcal GL hr pass0 (pa_cons (pv 1) (pa_cons (pv 4) pa_nil)))) (pss_cons 
    (ps_setLc (i := 6) (own := [("_law_j", 13)]) (g := gName 13) rfl sc_law.nd rfl rfl (sw_true rfl rfl rfl (by decide +kernel)) (pi_range1 (by rfl) nr (pa_cons (pv 4) pa_nil)) (blkOk_by (own := [("_law_j", 13)]) (N := ["_law_script", "_law_hand_here", "_law_turn", "_law_backs_here", "_law_many", "_law_labels_here", "_law_rows_here", "_law_table", "_law_company_here", "_law_chosen", "_law_places", "_law_handed", "_law_part_here", "_law_j", "_law_rest", "_law_odd", "_law_i", "_law_k", "_law_place", "_law_label"]) (sc := defScope s_law) (by decide +kernel)) (fun _ _ _ _ _ => pg_name (i := 13) sc_law.nd rfl (Or.inl rfl)) (fun _ _ _ _ _ => pts_nil) (fun _ _ _ _ _ => (pe_lc (own := [("_law_i", 16)]) (g := gName 16) (by rfl) sc_law.nd (pi_range1 (by rfl) nr (pa_cons (pv 13) pa_nil)) (blkOk_by (own := [("_law_i", 16)]) (N := ["_law_script", "_law_hand_here", "_law_turn", "_law_backs_here", "_law_many", "_law_labels_here", "_law_rows_here", "_law_table", "_law_company_here", "_law_chosen", "_law_places", "_law_handed", "_law_part_here", "_law_j", "_law_rest", "_law_odd", "_law_i", "_law_k", "_law_place", "_law_label"]) (by rfl)) (fun _ _ _ _ _ => pg_name (i := 16) sc_law.nd rfl (Or.inl rfl)) (fun _ _ _ _ _ => pts_nil) (fun _ _ _ _ _ => (pcal GD hr pass0 (pa_cons (pv 1) (pa_cons (pe_callB (id := "len") (r := rLen K) call_len_seq (by rfl) nl PySem.boot_len (pa_cons (pv 3) pa_nil)) pa_nil))))))) (pss_cons 
    (ps_set (i := 7) sc_law.nd rfl (Or.inl rfl) (pcal GT hr pass0 (pa_cons (pv 3) (pa_cons (pv 6) pa_nil)))) (pss_cons 
    (ps_set (i := 8) sc_law.nd rfl (Or.inl rfl) (pcal GCo hr pass0 (pa_cons (pv 3) (pa_cons (pv 5) (pa_cons (pv 7) pa_nil))))) (C8.pss_cut 
    (ps_set (i := 9) sc_law.nd rfl (Or.inr rfl) (pe_ifExp (pt_cmpR op_gt (pv 4) pe_int (nomark _)) (pe_lc (own := [("_law_k", 17)]) (g := gName 17) (by rfl) sc_law.nd (pi_range1 (by rfl) nr (pa_cons (pcal GD hr pass0 (pa_cons (pv 1) (pa_cons pe_int pa_nil))) pa_nil)) (blkOk_by (own := [("_law_k", 17)]) (N := ["_law_script", "_law_hand_here", "_law_turn", "_law_backs_here", "_law_many", "_law_labels_here", "_law_rows_here", "_law_table", "_law_company_here", "_law_chosen", "_law_places", "_law_handed", "_law_part_here", "_law_j", "_law_rest", "_law_odd", "_law_i", "_law_k", "_law_place", "_law_label"]) (sc := defScope s_law) (by decide +kernel)) (fun _ _ _ _ _ => pg_name (i := 17) sc_law.nd rfl (Or.inl rfl)) (fun _ _ _ _ _ => pts_nil) (fun _ _ _ _ _ => (pcal GD hr pass0 (pa_cons (pv 1) (pa_cons (pv 4) pa_nil))))) (pe_lst pa_nil))) (pss_cons 
    (ps_setLc (i := 10) (own := [("_law_place", 18)]) (g := gName 18) rfl sc_law.nd rfl rfl (sw_true rfl rfl rfl (by decide +kernel)) (pi_range1 (by rfl) nr (pa_cons (pv 4) pa_nil)) (blkOk_by (own := [("_law_place", 18)]) (N := ["_law_script", "_law_hand_here", "_law_turn", "_law_backs_here", "_law_many", "_law_labels_here", "_law_rows_here", "_law_table", "_law_company_here", "_law_chosen", "_law_places", "_law_handed", "_law_part_here", "_law_j", "_law_rest", "_law_odd", "_law_i", "_law_k", "_law_place", "_law_label"]) (sc := defScope s_law) (by decide +kernel)) (fun _ _ _ _ _ => pg_name (i := 18) sc_law.nd rfl (Or.inl rfl)) (fun _ _ _ _ _ => pts_one (pt_cmpR (r := rIn K false) op_in_seq (pv 18) (pv 9) (by rfl))) (fun _ _ _ _ _ => (pv 18))) (pss_cons 
    (ps_setLc (i := 11) (own := [("_law_place", 18)]) (g := gName 18) rfl sc_law.nd rfl rfl (sw_true rfl rfl rfl (by decide +kernel)) (pi_list (pv 9)) (blkOk_by (own := [("_law_place", 18)]) (N := ["_law_script", "_law_hand_here", "_law_turn", "_law_backs_here", "_law_many", "_law_labels_here", "_law_rows_here", "_law_table", "_law_company_here", "_law_chosen", "_law_places", "_law_handed", "_law_part_here", "_law_j", "_law_rest", "_law_odd", "_law_i", "_law_k", "_law_place", "_law_label"]) (sc := defScope s_law) (by decide +kernel)) (fun _ _ _ _ _ => pg_name (i := 18) sc_law.nd rfl (Or.inl rfl)) (fun _ _ _ _ _ => pts_nil) (fun _ _ _ _ _ => (pe_ix (r := rIxL K) ix_list (pv 5) (pv 18) (fun _ _ => rfl)))) (C8.pss_cut 
    (ps_set (i := 12) sc_law.nd rfl (Or.inl rfl) (pe_meth (pv 8) c.cl GPa.M GPa.F (hr.mono (by decide)) GPa.b .nil passL (pa_cons (pe_ifExp (pt_cmpR op_eq (pcal GD hr pass0 (pa_cons (pv 1) (pa_cons pe_int pa_nil))) pe_int (nomark _)) (pv 11) (pe_callTy (T := "tuple") (r := rTupOf K) call_tuple_of (by rfl) nt (by decide +kernel) (pa_cons (pv 11) pa_nil))) pa_nil))) (pss_cons 
    (ps_if (pt_cmpR (op_neD hr.units) (pv 11) (pe_lc (own := [("_law_place", 18)]) (g := gName 18) (by rfl) sc_law.nd (pi_list (pv 9)) (blkOk_by (own := [("_law_place", 18)]) (N := ["_law_script", "_law_hand_here", "_law_turn", "_law_backs_here", "_law_many", "_law_labels_here", "_law_rows_here", "_law_table", "_law_company_here", "_law_chosen", "_law_places", "_law_handed", "_law_part_here", "_law_j", "_law_rest", "_law_odd", "_law_i", "_law_k", "_law_place", "_law_label"]) (sc := defScope s_law) (by decide +kernel)) (fun _ _ _ _ _ => pg_name (i := 18) sc_law.nd rfl (Or.inl rfl)) (fun _ _ _ _ _ => pts_nil) (fun _ _ _ _ _ => (pe_ix (r := rIxL K) ix_list (pv 5) (pv 18) (fun _ _ => rfl)))) (nomark _)) (pss_one 
      (ps_ret pe_bl)) pss_nil) (pss_cons 
    (ps_if (pt_not (pt_val (pcal GI hr pass0 (pa_cons (pv 12) (pa_cons (pv 3) (pa_cons (pe_lc (own := [("_law_place", 18)]) (g := gName 18) (by rfl) sc_law.nd (pi_list (pv 10)) (blkOk_by (own := [("_law_place", 18)]) (N := ["_law_script", "_law_hand_here", "_law_turn", "_law_backs_here", "_law_many", "_law_labels_here", "_law_rows_here", "_law_table", "_law_company_here", "_law_chosen", "_law_places", "_law_handed", "_law_part_here", "_law_j", "_law_rest", "_law_odd", "_law_i", "_law_k", "_law_place", "_law_label"]) (sc := defScope s_law) (by decide +kernel)) (fun _ _ _ _ _ => pg_name (i := 18) sc_law.nd rfl (Or.inl rfl)) (fun _ _ _ _ _ => pts_nil) (fun _ _ _ _ _ => (pe_ix (r := rIxL K) ix_list (pv 5) (pv 18) (fun _ _ => rfl)))) (pa_cons (pcal GPt hr pass0 (pa_cons (pv 7) (pa_cons (pv 10) pa_nil))) pa_nil))))))) (pss_one 
      (ps_ret pe_bl)) pss_nil) (pss_cons 
    (ps_if (pt_not (pt_val (pcal GN hr pass0 (pa_cons (pv 1) (pa_cons (pv 8) (pa_cons (pv 3) (pa_cons (pv 5) (pa_cons (pv 7) pa_nil)))))))) (pss_one 
      (ps_ret pe_bl)) pss_nil) (pss_cons 
    (ps_for PassesOwn.never rfl (pi_range1 (by rfl) nr (pa_cons (pv 4) pa_nil)) (pg_name (i := 13) sc_law.nd rfl (Or.inr rfl)) (pss_cons 
      (ps_setLc (i := 14) (own := [("_law_place", 18)]) (g := gName 18) rfl sc_law.nd rfl rfl (sw_true rfl rfl rfl (by decide +kernel)) (pi_range1 (by rfl) nr (pa_cons (pv 4) pa_nil)) (blkOk_by (own := [("_law_place", 18)]) (N := ["_law_script", "_law_hand_here", "_law_turn", "_law_backs_here", "_law_many", "_law_labels_here", "_law_rows_here", "_law_table", "_law_company_here", "_law_chosen", "_law_places", "_law_handed", "_law_part_here", "_law_j", "_law_rest", "_law_odd", "_law_i", "_law_k", "_law_place", "_law_label"]) (sc := defScope s_law) (by decide +kernel)) (fun _ _ _ _ _ => pg_name (i := 18) sc_law.nd rfl (Or.inl rfl)) (fun _ _ _ _ _ => pts_one (pt_cmpR op_ne (pv 18) (pv 13) (nomark _))) (fun _ _ _ _ _ => (pv 18))) (pss_one 
      (ps_if (pt_not (pt_val (pcal GI hr pass0 (pa_cons (pe_meth (pv 8) c.cl GW.M GW.F (hr.mono (by decide)) GW.b .nil passL (pa_cons (pe_ix ix_list (pv 5) (pv 13) (fun _ _ => rfl)) pa_nil)) (pa_cons (pv 3) (pa_cons (pe_lc (own := [("_law_place", 18)]) (g := gName 18) (by rfl) sc_law.nd (pi_list (pv 14)) (blkOk_by (own := [("_law_place", 18)]) (N := ["_law_script", "_law_hand_here", "_law_turn", "_law_backs_here", "_law_many", "_law_labels_here", "_law_rows_here", "_law_table", "_law_company_here", "_law_chosen", "_law_places", "_law_handed", "_law_part_here", "_law_j", "_law_rest", "_law_odd", "_law_i", "_law_k", "_law_place", "_law_label"]) (sc := defScope s_law) (by decide +kernel)) (fun _ _ _ _ _ => pg_name (i := 18) sc_law.nd rfl (Or.inl rfl)) (fun _ _ _ _ _ => pts_nil) (fun _ _ _ _ _ => (pe_ix (r := rIxL K) ix_list (pv 5) (pv 18) (fun _ _ => rfl)))) (pa_cons (pcal GPt hr pass0 (pa_cons (pv 7) (pa_cons (pv 14) pa_nil))) pa_nil))))))) (pss_one 
        (ps_ret pe_bl)) pss_nil)))) (pss_cons 
    (ps_set (i := 15) sc_law.nd rfl (Or.inl rfl) (pcal GP hr pass0 (pa_cons (pv 1) (pa_cons (pe_op op_cat (pe_lst (pa_cons (pe_un un_neg pe_int) (pa_cons (pe_op op_add (pe_op op_pow pe_int pe_int) pe_int) (pa_cons pe_non (pa_cons pe_bl (pa_cons (pe_op op_pow pe_int pe_int) pa_nil)))))) (pe_lc (own := [("_law_label", 19)]) (g := gName 19) (by rfl) sc_law.nd (pi_list (pv 5)) (blkOk_by (own := [("_law_label", 19)]) (N := ["_law_script", "_law_hand_here", "_law_turn", "_law_backs_here", "_law_many", "_law_labels_here", "_law_rows_here", "_law_table", "_law_company_here", "_law_chosen", "_law_places", "_law_handed", "_law_part_here", "_law_j", "_law_rest", "_law_odd", "_law_i", "_law_k", "_law_place", "_law_label"]) (sc := defScope s_law) (by decide +kernel)) (fun _ _ _ _ _ => pg_name (i := 19) sc_law.nd rfl (Or.inl rfl)) (fun _ _ _ _ _ => pts_one (pt_cmpR (r := rIn K true) op_notIn_seq (pe_op op_add (pv 19) pe_int) (pv 5) (by rfl))) (fun _ _ _ _ _ => (pe_op op_add (pv 19) pe_int)))) pa_nil)))) (pss_cons 
    (ps_if (PW.pt (pw_or (pt_not (pt_val (pcal GRf hr pass0 (pa_cons (pv 8) (pa_cons pe_int (pa_cons (pv 15) (pa_cons (pe_op op_cat (pv 11) (pe_lst (pa_cons (pv 15) (pa_cons (pe_un un_neg pe_int) pa_nil)))) pa_nil))))))) (pw_or1 (pt_not (pt_val (pcal GRf hr pass0 (pa_cons (pv 8) (pa_cons pe_int (pa_cons (pv 15) (pa_cons (pe_lst pa_nil) pa_nil)))))))))) (pss_one 
      (ps_ret pe_bl)) pss_nil) (pss_one 
    (ps_if (pt_not (pt_val (pcal GI hr pass0 (pa_cons (pv 8) (pa_cons (pv 3) (pa_cons (pv 5) (pa_cons (pv 7) pa_nil))))))) (pss_one 
      (ps_ret pe_bl)) pss_nil))))))))))))))))))) (pss_one 
  (ps_ret pe_bl)))), ?_⟩
    refine ⟨_, rfl, a, ns, rfl, hS, hn, fun Ha h q S0 hh0 hq0 hh => ?_⟩
    refine ⟨2, rfl, by decide, by decide, for_range (lo := 0) (n := 2) (fun i σ H' => ∃ (v2 v3 v4 v5 v6 v7 v8 v9 v10 v11 v12 v13 v14 v15 v16 v17 v18 v19 : Option V), σ = [some (.ref a), some (.ref h), v2, v3, v4, v5, v6, v7, v8, v9, v10, v11, v12, v13, v14, v15, v16, v17, v18, v19] ∧ Hand H' h q) ⟨none, none, none, none, none, none, none, none, none, none, none, none, none, none, none, none, none, none, rfl, hh⟩ ?_ ?_⟩
    · rintro i σ H1 hi ⟨v2, v3, v4, v5, v6, v7, v8, v9, v10, v11, v12, v13, v14, v15, v16, v17, v18, v19, rfl, h1⟩
      -- backs
      refine ⟨_, rfl, _, rfl, h, q, 3, rfl, by decide, by decide, h1, fun d H2 d0 d3 b2 h2 => ⟨_, _, rfl, rfl, h, q, 2 + d, rfl, by omega, by omega, h2, fun bs b H3 _ gb b3 nb eb h3 => ?_⟩⟩
      obtain ⟨nbh, _⟩ := h2.same_h' nb
      -- many
      refine ⟨fun σ' H' => ∃ m : Nat, σ' = [some (.ref a), some (.ref h), some (.int (0 + (i : Nat))), some (.ref b), some (.int (m : Nat)), v5, v6, v7, v8, v9, v10, v11, v12, v13, v14, v15, v16, v17, v18, v19] ∧ m ≤ 19 ∧ Hand H' h q ∧ But h H3 H', ?_, ?_⟩
      · refine ⟨_, rfl, h, q, 6, rfl, by decide, by decide, h3, fun b0 H4 x0 x1 b4 h4 => ⟨_, _, rfl, rfl, _, rfl, ifD (fun _ => ?_) (fun _ => ?_)⟩⟩
        · refine ⟨_, rfl, h, q, 8, rfl, by decide, by decide, h4, fun m H5 m0 m1 b5 h5 => ⟨m.toNat, ?_, by omega, h5, b4.trans b5⟩⟩
          rw [Int.toNat_of_nonneg m0]
          rfl
        · refine ⟨_, rfl, h, q, 12, rfl, by decide, by decide, h4, fun m H5 m0 m1 b5 h5 => ⟨_, _, rfl, rfl, (8 + m).toNat, ?_, by omega, h5, b4.trans b5⟩⟩
          rw [Int.toNat_of_nonneg (by omega)]
          rfl
      rintro σ6 H6 ⟨m, rfl, m19, h6, b36⟩
      have eb6 := b36 _ _ nbh eb
      -- labels
      refine ⟨_, rfl, _, rfl, h, q, m, rfl, by omega, h6, fun H7 lb is il asc labs b7 h7 nlb elb => ?_⟩
      obtain ⟨nlh, _⟩ := h6.same_h' nlb
      have eb7 := b7 _ _ nbh eb6
      have i60 : is.length ≤ 60 := by omega
      have bl : (bs.map V.int).length = bs.length := List.length_map _
      have g1 := gb.lo
      have g4 := gb.hi
      -- rows
      refine ⟨_, rfl, (m : Nat), rfl, by omega, by omega, fun D hD => ?_⟩
      obtain ⟨nDh, nDq⟩ := h7.same_h' hD
      refine lc_range (lo := 0) (n := m) (fun j H8 => ∃ (ps : List Addr) (tss : List (List Int)), tss.length = j ∧ Rows bs.length tss ∧ Hand H8 h q ∧ But h H7 H8 ∧ (∀ a ∈ ps, H7 a = none ∧ a ≠ h) ∧ LinesAt H8 D ps tss)
        ⟨[], [], rfl, (fun j ts e => by simp at e), h7.new hD, But.new hD, (fun a ha => by simp at ha), upd_same, rfl, (fun j a ts e => by simp at e)⟩ ?_ ?_
      · rintro j H8 hj ⟨ps, tss, tl, rw_, h8, B8, fr, eD, pl, hl⟩
        refine ⟨rfl, yesT ?_⟩
        have eb8 := B8 _ _ nbh eb7
        refine ⟨_, rfl, ((j : Nat) : Int), by rw [Int.zero_add], by omega, by omega, fun D2 hD2 => ?_⟩
        obtain ⟨n2h, n2q⟩ := h8.same_h' hD2
        have n2b : D2 ≠ b := (ne_of_none eb8 hD2).symm
        have n2D : D2 ≠ D := (ne_of_none eD hD2).symm
        have f2 : H7 D2 = none := B8.free n2h hD2
        have n2p : D2 ∉ ps := fun z => by
          obtain ⟨i, hi⟩ := List.getElem?_of_mem z
          have il := (List.getElem?_eq_some_iff.mp hi).1
          obtain ⟨_, e⟩ := hl i D2 _ hi (List.getElem?_eq_getElem (by omega))
          rw [hD2] at e
          cases e
        refine lc_range (lo := 0) (n := j) (fun n H9 => ∃ zs : List Int, zs.length = n ∧ (∀ t ∈ zs, 0 ≤ t ∧ t < (bs.length : Nat)) ∧ H9 D2 = some (.lst (zs.map V.int)) ∧ Hand H9 h q ∧ (∀ b o, b ≠ h → b ≠ D2 → H8 b = some o → H9 b = some o))
          ⟨[], rfl, (fun t ht => by simp at ht), upd_same, h8.new hD2, fun b o _ n2 e => by rw [upd_ne n2]; exact e⟩ ?_ ?_
        · rintro n H9 hn ⟨zs, zl, zr, eD2, h9, B9⟩
          refine ⟨rfl, yesT ?_⟩
          have eb9 := B9 _ _ nbh n2b.symm eb8
          refine ⟨_, rfl, _, rfl, b, _, rfl, .inl (SqL.of eb9), h, q, _, rfl, by omega, by omega, h9, fun z H10 z0 z1 b10 h10 => ?_⟩
          have eD210 := b10 _ _ n2h eD2
          refine ⟨_, eD210, by rw [List.length_map]; exact small1000 (by omega), zs ++ [z], by rw [List.length_append, zl]; rfl, fun t ht => ?_, by rw [upd_same, List.map_append]; rfl, h10.put n2h.symm n2q.symm, fun c o n1 n2 e => by rw [upd_ne n2]; exact b10 _ _ n1 (B9 c o n1 n2 e)⟩
          rcases List.mem_append.mp ht with ht | ht
          · exact zr t ht
          · rw [List.mem_singleton] at ht
            subst ht
            exact ⟨z0, by omega⟩
        · rintro H9 ⟨zs, zl, zr, eD2, h9, B9⟩
          have eD9 := B9 _ _ nDh n2D.symm eD
          refine ⟨ps.map V.ref, eD9, by rw [List.length_map]; exact small1000 (by omega), ps ++ [D2], tss ++ [zs], by rw [List.length_append, tl]; rfl, fun i ts e => ?_, h9.put nDh.symm nDq.symm, fun c o nc e => ?_, fun a ha => ?_, by rw [upd_same, List.map_append]; rfl, by rw [List.length_append, List.length_append, pl]; rfl, fun i a ts e1 e2 => ?_⟩
          · rcases Nat.lt_or_ge i tss.length with q | q
            · rw [List.getElem?_append_left q] at e
              exact rw_ i ts e
            · have hi : i = j := by
                have := (List.getElem?_eq_some_iff.mp e).1
                rw [List.length_append] at this
                have l : [zs].length = 1 := rfl
                omega
              subst hi
              rw [← tl, List.getElem?_append_right (Nat.le_refl _), Nat.sub_self] at e
              obtain rfl : zs = ts := Option.some.inj e
              exact ⟨zl, zr⟩
          · rw [upd_ne (ne_of_none e hD)]
            exact B9 c o nc (ne_of_none e f2) (B8 c o nc e)
          · rcases List.mem_append.mp ha with q | q
            · exact fr a q
            · rw [List.mem_singleton] at q
              subst q
              exact ⟨f2, n2h⟩
          · rcases Nat.lt_or_ge i ps.length with q | q
            · rw [List.getElem?_append_left q] at e1
              rw [List.getElem?_append_left (by omega)] at e2
              obtain ⟨n1, e3⟩ := hl i a ts e1 e2
              have mem := List.mem_of_getElem? e1
              exact ⟨n1, by rw [upd_ne n1]; exact B9 a _ (fr a mem).2 (fun z => n2p (z ▸ mem)) e3⟩
            · have hi : i = ps.length := by
                have := (List.getElem?_eq_some_iff.mp e1).1
                rw [List.length_append] at this
                have l : [D2].length = 1 := rfl
                omega
              subst hi
              rw [List.getElem?_append_right (Nat.le_refl _), Nat.sub_self] at e1
              rw [pl, List.getElem?_append_right (Nat.le_refl _), Nat.sub_self] at e2
              obtain rfl : D2 = a := Option.some.inj e1
              obtain rfl : zs = ts := Option.some.inj e2
              exact ⟨n2D, by rw [upd_ne n2D]; exact eD2⟩
      rintro H8 ⟨ps, tss, tl, R, h8, B8, fr, L⟩
      have eb8 := B8 _ _ nbh eb7
      have elb8 := B8 _ _ nlh elb
      have tli : tss.length = is.length := by omega
      have npsh : ∀ a ∈ ps, a ≠ h := fun a ha => (fr a ha).2
      -- the table, the company
      subst il
      refine ⟨_, rfl, _, rfl, b, D, ps, bs, tss, rfl, eb8, L, R, gb, by omega, fun H9 T qs gT => ?_⟩
      have LT := gT.L
      rw [tli] at LT
      have S9 := gT.S
      obtain ⟨nTh, _⟩ := h8.same_h' gT.n
      have nqh : ∀ p ∈ qs, p ≠ h := fun p hp => (h8.same_h' (gT.f p hp)).1
      have tcell : ∀ a b, a < tss.length → b < a → tieF bs tss a b = cellI bs tss a b := fun a b _ hb => by
        unfold tieF
        rw [if_neg (by omega)]
      have rE := rowsT_cell R tcell
      rw [tli] at rE
      refine ⟨_, rfl, _, rfl, _, rfl, b, lb, T, qs, tieF bs tss, bs, is, rfl, S9 _ _ eb8, gb, S9 _ _ elb8, asc, labs, i60, LT, fun a b ha hb => ?_, fun H10 x S10 cx => ?_⟩
      · rw [tcell a b (by omega) hb]
        exact (cell_int gb R (by omega) (by omega) (by omega)).2
      rw [rE] at cx
      have st : LawSt C CC h q x b lb T qs bs is tss H10 := ⟨(h8.keep S9).keep S10, cx, gb, S10 _ _ (S9 _ _ eb8), S10 _ _ (S9 _ _ elb8), LT.keep S10, nbh, nlh, nTh, nqh, by omega⟩
      clear S10 cx rE LT gT nqh nTh L eb8 elb8 R fr h8 B8 eb7 eb6 elb hD nDh nDq eb
      -- the chosen
      refine ⟨fun σ' H' => ∃ (CD : Addr) (cs : List Nat), σ' = [some (.ref a), some (.ref h), some (.int (0 + (i : Nat))), some (.ref b), some (.int (is.length : Nat)), some (.ref lb), some (.ref D), some (.ref T), some (.ref x), some (.ref CD), v10, v11, v12, v13, v14, v15, v16, v17, v18, v19] ∧ LawSt C CC h q x b lb T qs bs is tss H' ∧ CD ≠ h ∧ H' CD = some (.lst (cs.map fun j : Nat => V.int (j : Nat))) ∧ cs.length ≤ 9 ∧ ∀ j ∈ cs, j < is.length, ?_, ?_⟩
      · refine ⟨_, rfl, _, _, rfl, rfl, _, rfl, ifD (fun c0 => ?_) (fun c0 => ?_)⟩
        · refine ⟨_, rfl, h, q, 10, rfl, by decide, by decide, st.hd, fun n H11 n0 n1 B11 h11 => ⟨n, rfl, by omega, by omega, fun CD hCD => ?_⟩⟩
          have st11 := st.but B11 h11
          obtain ⟨nCh, nCq⟩ := h11.same_h' hCD
          refine lc_range (lo := 0) (n := n.toNat) (fun i G => ∃ cs : List Nat, cs.length = i ∧ (∀ j ∈ cs, j < is.length) ∧ Hand G h q ∧ But h H11 G ∧ G CD = some (.lst (cs.map fun j : Nat => V.int (j : Nat)))) ⟨[], rfl, (fun j hj => nomatch hj), h11.new hCD, But.new hCD, upd_same⟩ ?_ ?_
          · rintro i G hi ⟨cs, cl, clt, hG, BG, eG⟩
            refine ⟨rfl, yesT ⟨_, rfl, _, rfl, h, q, _, rfl, by omega, by omega, hG, fun z G2 z0 z1 b2' h2' => ?_⟩⟩
            refine ⟨_, b2' _ _ nCh eG, small1000 (by rw [List.length_map]; omega), cs ++ [z.toNat], by rw [List.length_append, cl]; rfl, fun j hj => ?_, h2'.put nCh.symm nCq.symm, (BG.trans b2').put2 hCD, ?_⟩
            · rcases List.mem_append.mp hj with hj | hj
              · exact clt j hj
              · rw [List.mem_singleton] at hj
                subst hj
                omega
            · rw [upd_same, List.map_append]
              show some (HO.lst (_ ++ [V.int z])) = some (HO.lst (_ ++ [V.int ((z.toNat : Nat) : Int)]))
              rw [Int.toNat_of_nonneg z0]
          · rintro G ⟨cs, cl, clt, hG, BG, eG⟩
            exact ⟨CD, cs, rfl, st11.but BG hG, nCh, eG, by omega, clt⟩
        · refine ⟨Nat.zero_le _, fun CD hCD => ⟨CD, [], rfl, st.same (new_same hCD), (st.hd.same_h' hCD).1, upd_same, by decide, fun j hj => nomatch hj⟩⟩
      clear st
      rintro σ12 H12 ⟨CD, cs, rfl, st, nCh, eC, c9, clt⟩
      -- the places
      refine ⟨_, rfl, ((is.length : Nat) : Int), rfl, by omega, by omega, fun PD hPD => ?_⟩
      refine lc_range (lo := 0) (n := is.length) (fun i G => Same H12 G ∧ H12 PD = none ∧ G PD = some (.lst (((List.range i).filter fun k => decide (k ∈ cs)).map fun k : Nat => V.int (k : Nat)))) ⟨new_same hPD, hPD, upd_same⟩ ?_ ?_
      · rintro i G hi ⟨S, D0, eD⟩
        have bt : ((List.range (i + 1)).filter fun k => decide (k ∈ cs)) = ((List.range i).filter fun k => decide (k ∈ cs)) ++ if i ∈ cs then [i] else [] := by
          rw [List.range_succ, List.filter_append]
          congr 1
          by_cases c : i ∈ cs <;> simp [c]
        refine ⟨rfl, _, rfl, _, rfl, CD, _, rfl, .inl (SqL.of (S _ _ eC)), rfl, nats_flat cs, _, rfl, ?_⟩
        rw [show (if false = true then !inV (V.int (0 + (i : Nat))) (cs.map fun j : Nat => V.int (j : Nat)) else inV (V.int (0 + (i : Nat))) (cs.map fun j : Nat => V.int (j : Nat))) = decide (i ∈ cs) by rw [Int.zero_add]; exact inV_nats]
        refine ifD (fun c1 => ?_) (fun c1 => ⟨S, D0, by rw [bt, if_neg c1, List.append_nil]; exact eD⟩)
        refine ⟨_, rfl, _, eD, small1000 ?_, fun a o e => ?_, D0, ?_⟩
        · rw [List.length_map]
          have := List.length_filter_le (fun k => decide (k ∈ cs)) (List.range i)
          rw [List.length_range] at this
          omega
        · rw [upd_ne (ne_of_none e D0)]
          exact S _ _ e
        · rw [upd_same, bt, if_pos c1, List.map_append, Int.zero_add]
          rfl
      rintro H13 ⟨S13, _, eP⟩
      have nPh := (st.hd.same_h' hPD).1
      have st := st.same S13
      have eC := S13 _ _ eC
      have jmem : ∀ j, j ∈ ((List.range is.length).filter fun k => decide (k ∈ cs)) ↔ j ∈ cs := fun j => by
        rw [List.mem_filter, List.mem_range, decide_eq_true_eq]
        exact ⟨fun z => z.2, fun z => ⟨clt j z, z⟩⟩
      have jpw : ((List.range is.length).filter fun k => decide (k ∈ cs)).Pairwise (· < ·) := List.Pairwise.filter _ List.pairwise_lt_range
      generalize ((List.range is.length).filter fun k => decide (k ∈ cs)) = js at eP jmem jpw
      have jlt : ∀ j ∈ js, j < is.length := fun j hj => clt j ((jmem j).mp hj)
      have jl := lt_len jpw jlt
      -- handed
      refine ⟨_, rfl, CD, rfl, ⟨_, SqL.of eC⟩, fun HD hHD => ?_⟩
      refine lc_list (K := K) (a := CD) (xs := cs.map fun j : Nat => V.int (j : Nat)) (fun i G3 => Same H13 G3 ∧ H13 HD = none ∧ G3 HD = some (.lst ((pickL is (cs.take i)).map V.int))) ⟨new_same hHD, hHD, upd_same⟩ (fun i G3 _ ⟨S, _⟩ => SqL.of (S _ _ eC)) ?_ ?_
      · rintro i y G3 hy ⟨S3, E0, eE⟩
        rw [List.getElem?_map] at hy
        cases hi : cs[i]? with
        | none => rw [hi] at hy; cases hy
        | some j =>
          rw [hi] at hy
          obtain rfl : V.int (j : Nat) = y := Option.some.inj hy
          have jb := clt j (List.mem_of_getElem? hi)
          have ej := List.getElem?_eq_getElem jb
          refine ⟨rfl, yesT ⟨_, rfl, _, rfl, lb, _, _, _, rfl, rfl, SqL.of (S3 _ _ st.el), at_of (j := j) (v := .int is[j]) rfl (by rw [List.getElem?_map, ej]; rfl), _, eE, small1000 ?_, fun a o e => ?_, E0, ?_⟩⟩
          · rw [List.length_map, pickL_len, List.length_take]
            omega
          · rw [upd_ne (ne_of_none e E0)]
            exact S3 _ _ e
          · rw [upd_same, List.take_add_one, hi]
            unfold pickL
            rw [List.map_append, List.map_append]
            have q : (is[j]?).getD 0 = is[j] := by rw [ej]; rfl
            show _ = some (HO.lst (_ ++ [V.int ((is[j]?).getD 0)]))
            rw [q]
      rintro H14 ⟨S14, D0, eH⟩
      rw [List.length_map, List.take_length] at eH
      have st := st.same S14
      have eC := S14 _ _ eC
      have eP := S14 _ _ eP
      have nHh : HD ≠ h := fun q => by
        obtain ⟨cs1, i1, r1, t1, eh1, _⟩ := id st.hd
        rw [q, eh1] at eH
        have z := Option.some.inj eH
        injection z with z
        cases hx : pickL is cs with
        | nil => rw [hx] at z; cases z
        | cons x xs => rw [hx] at z; injection z with z _; cases z
      have hseat : ∀ y ∈ (pickL is cs).map V.int, (seat is y).isSome = true := fun y hy => by
        obtain ⟨n, hn, rfl⟩ := List.mem_map.mp hy
        obtain ⟨j, hj, rfl⟩ := List.mem_map.mp hn
        have jb := clt j hj
        have ej := List.getElem?_eq_getElem jb
        rw [ej, show (some is[j]).getD 0 = is[j] from rfl, seat_at asc ej]
        rfl
      have hmem : ∀ j, (∃ y ∈ (pickL is cs).map V.int, seat is y = some j) ↔ j ∈ cs := fun j => by
        constructor
        · rintro ⟨y, hy, ej⟩
          obtain ⟨n, hn, rfl⟩ := List.mem_map.mp hy
          obtain ⟨j', hj', rfl⟩ := List.mem_map.mp hn
          have jb := clt j' hj'
          have e' := List.getElem?_eq_getElem jb
          rw [e', show (some is[j']).getD 0 = is[j'] from rfl, seat_at asc e'] at ej
          obtain rfl := Option.some.inj ej
          exact hj'
        · intro hj
          have jb := clt j hj
          have ej := List.getElem?_eq_getElem jb
          exact ⟨.int is[j], List.mem_map.mpr ⟨is[j], List.mem_map.mpr ⟨j, hj, by rw [ej]; rfl⟩, rfl⟩, seat_at asc ej⟩
      have hl9 : ((pickL is cs).map V.int).length ≤ 900 := by rw [List.length_map, pickL_len]; omega
      -- the part
      refine ⟨fun σ' H' => ∃ z, σ' = [some (.ref a), some (.ref h), some (.int (0 + (i : Nat))), some (.ref b), some (.int (is.length : Nat)), some (.ref lb), some (.ref D), some (.ref T), some (.ref x), some (.ref CD), some (.ref PD), some (.ref HD), some (.ref z), v13, v14, v15, v16, v17, v18, v19] ∧ LawSt C CC h q x b lb T qs bs is tss H' ∧ H' CD = some (.lst (cs.map fun j : Nat => V.int (j : Nat))) ∧ H' PD = some (.lst (js.map fun j : Nat => V.int (j : Nat))) ∧ H' HD = some (.lst ((pickL is cs).map V.int)) ∧ CompAt C CC H' z bs (pickL is js) (subT bs tss js js.length), ?_, ?_⟩
      · obtain ⟨dx, _, _, _, _, _, a1⟩ := st.c.meth
        refine ⟨_, rfl, x, dx, _, rfl, a1, cf_no _ _ _ _ _ (by decide +kernel) (by decide +kernel) (by decide +kernel) (by decide +kernel) (by decide +kernel), _, rfl, h, q, 2, rfl, by decide, by decide, st.hd, fun b0 H15 x0 x1 B15 h15 => ⟨rfl, _, rfl, ifD (fun _ => ?_) (fun _ => ?_)⟩⟩
        · have s15 := st.but B15 h15
          refine ⟨_, rfl, x, bs, is, tss, .ref HD, .lst ((pickL is cs).map V.int), rfl, s15.c, gb, ⟨HD, rfl, B15 _ _ nHh eH⟩, rfl, ints_known _, hl9, fun i' y ey ny _ => ?_, fun _ js' pw' mem' H16 z S16 cz => ?_⟩
          · have := hseat y (List.mem_of_getElem? ey)
            rw [ny] at this
            cases this
          · obtain rfl : js' = js := lt_ext pw' jpw fun j => (mem' j).trans ((hmem j).trans (jmem j).symm)
            exact ⟨z, rfl, s15.same S16, S16 _ _ (B15 _ _ nCh eC), S16 _ _ (B15 _ _ nPh eP), S16 _ _ (B15 _ _ nHh eH), cz⟩
        · have s15 := st.but B15 h15
          refine ⟨_, rfl, HD, _, rfl, .inl ⟨SqL.of (B15 _ _ nHh eH), fun l hl => ?_⟩⟩
          have T1 := new_same (o := .tup ((pickL is cs).map V.int)) hl
          have s15 := s15.same T1
          refine ⟨x, bs, is, tss, .ref l, .tup ((pickL is cs).map V.int), rfl, s15.c, gb, ⟨l, rfl, upd_same⟩, rfl, ints_known _, hl9, fun i' y ey ny _ => ?_, fun _ js' pw' mem' H16 z S16 cz => ?_⟩
          · have := hseat y (List.mem_of_getElem? ey)
            rw [ny] at this
            cases this
          · obtain rfl : js' = js := lt_ext pw' jpw fun j => (mem' j).trans ((hmem j).trans (jmem j).symm)
            have S17 := T1.trans S16
            exact ⟨z, rfl, s15.same S16, S17 _ _ (B15 _ _ nCh eC), S17 _ _ (B15 _ _ nPh eP), S17 _ _ (B15 _ _ nHh eH), cz⟩
      clear eP eC eH st
      rintro σ16 H16 ⟨z, rfl, st, eC, eP, eH, cz⟩
      -- nothing is changed
      refine ⟨_, rfl, _, rfl, CD, rfl, ⟨_, SqL.of eC⟩, fun D1 hD1 => ?_⟩
      refine lc_list (K := K) (a := CD) (xs := cs.map fun j : Nat => V.int (j : Nat)) (fun i G3 => Same H16 G3 ∧ H16 D1 = none ∧ G3 D1 = some (.lst ((pickL is (cs.take i)).map V.int))) ⟨new_same hD1, hD1, upd_same⟩ (fun i G3 _ ⟨S, _⟩ => SqL.of (S _ _ eC)) ?_ ?_
      · rintro i y G3 hy ⟨S3, E0, eE⟩
        rw [List.getElem?_map] at hy
        cases hi : cs[i]? with
        | none => rw [hi] at hy; cases hy
        | some j =>
          rw [hi] at hy
          obtain rfl : V.int (j : Nat) = y := Option.some.inj hy
          have jb := clt j (List.mem_of_getElem? hi)
          have ej := List.getElem?_eq_getElem jb
          refine ⟨rfl, yesT ⟨_, rfl, _, rfl, lb, _, _, _, rfl, rfl, SqL.of (S3 _ _ st.el), at_of (j := j) (v := .int is[j]) rfl (by rw [List.getElem?_map, ej]; rfl), _, eE, small1000 ?_, fun a o e => ?_, E0, ?_⟩⟩
          · rw [List.length_map, pickL_len, List.length_take]
            omega
          · rw [upd_ne (ne_of_none e E0)]
            exact S3 _ _ e
          · rw [upd_same, List.take_add_one, hi]
            unfold pickL
            rw [List.map_append, List.map_append]
            have q : (is[j]?).getD 0 = is[j] := by rw [ej]; rfl
            show _ = some (HO.lst (_ ++ [V.int ((is[j]?).getD 0)]))
            rw [q]
      rintro H17 ⟨S17, _, eD1⟩
      rw [List.length_map, List.take_length] at eD1
      refine ⟨_, _, .lst (SqL.of (S17 _ _ eH)) (dp_ints _), .lst (SqL.of eD1) (dp_ints _), shaped_li _, shaped_li _, _, rfl, if_fa (by rw [eqv_li]; simp) ?_⟩
      have st := st.same S17
      have eP := S17 _ _ eP
      have eH := S17 _ _ eH
      have cz := cz.keep S17
      have RR := st.c.rows
      -- is it the part
      refine ⟨_, rfl, _, rfl, _, rfl, PD, rfl, ⟨_, SqL.of eP⟩, fun D2 hD2 => ?_⟩
      refine lc_list (K := K) (a := PD) (xs := js.map fun j : Nat => V.int (j : Nat)) (fun i G3 => Same H17 G3 ∧ H17 D2 = none ∧ G3 D2 = some (.lst ((pickL is (js.take i)).map V.int))) ⟨new_same hD2, hD2, upd_same⟩ (fun i G3 _ ⟨S, _⟩ => SqL.of (S _ _ eP)) ?_ ?_
      · rintro i y G3 hy ⟨S3, E0, eE⟩
        rw [List.getElem?_map] at hy
        cases hi : js[i]? with
        | none => rw [hi] at hy; cases hy
        | some j =>
          rw [hi] at hy
          obtain rfl : V.int (j : Nat) = y := Option.some.inj hy
          have jb := jlt j (List.mem_of_getElem? hi)
          have ej := List.getElem?_eq_getElem jb
          refine ⟨rfl, yesT ⟨_, rfl, _, rfl, lb, _, _, _, rfl, rfl, SqL.of (S3 _ _ st.el), at_of (j := j) (v := .int is[j]) rfl (by rw [List.getElem?_map, ej]; rfl), _, eE, small1000 ?_, fun a o e => ?_, E0, ?_⟩⟩
          · rw [List.length_map, pickL_len, List.length_take]
            omega
          · rw [upd_ne (ne_of_none e E0)]
            exact S3 _ _ e
          · rw [upd_same, List.take_add_one, hi]
            unfold pickL
            rw [List.map_append, List.map_append]
            have q : (is[j]?).getD 0 = is[j] := by rw [ej]; rfl
            show _ = some (HO.lst (_ ++ [V.int ((is[j]?).getD 0)]))
            rw [q]
      rintro H18 ⟨S18, _, eD2⟩
      rw [List.length_map, List.take_length] at eD2
      have st := st.same S18
      have eP := S18 _ _ eP
      have eH := S18 _ _ eH
      have cz := cz.keep S18
      refine ⟨_, rfl, _, rfl, T, PD, qs, tieF bs tss, is.length, js, rfl, st.L, eP, by omega, jlt, fun H19 DG gs gG => ?_⟩
      have LG := gG.L
      rw [← pickL_len (is := is) (js := js)] at LG
      have st := st.same gG.S
      refine ⟨z, b, D2, DG, gs, _, bs, pickL is js, subT bs tss js js.length, rfl, cz.keep gG.S, gb, st.eb, gG.S _ _ eD2, LG, fun a b ha hb ne => subT_cellI gb RR (fun j hj => by have := jlt j hj; omega) (lt_nodup jpw) (by rw [pickL_len] at ha; exact ha) (by rw [pickL_len] at hb; exact hb) ne, fun H20 S20 => ⟨_, rfl, iteF ?_⟩⟩
      have st := st.same S20
      have eH := S20 _ _ (gG.S _ _ eH)
      clear LG gG cz eP eC eD1 eD2
      -- the newcomer
      refine ⟨_, rfl, _, rfl, _, rfl, _, rfl, _, rfl, h, q, x, b, lb, T, qs, bs, is, tss, rfl, st.hd, st.c, gb, st.l, st.nb, st.nl, st.nT, st.np, st.eb, st.el, st.L, fun H21 B21 h21 => ⟨_, rfl, iteF ?_⟩⟩
      have st := st.but B21 h21
      have eH := B21 _ _ nHh eH
      -- without each
      refine ⟨_, rfl, ((is.length : Nat) : Int), rfl, by omega, by omega, for_range (lo := 0) (n := is.length) (fun j' σ' G => ∃ u13 u14, σ' = [some (.ref a), some (.ref h), some (.int (0 + (i : Nat))), some (.ref b), some (.int (is.length : Nat)), some (.ref lb), some (.ref D), some (.ref T), some (.ref x), some (.ref CD), some (.ref PD), some (.ref HD), some (.ref z), u13, u14, v15, v16, v17, v18, v19] ∧ Same H21 G) ⟨_, _, rfl, fun _ _ e => e⟩ ?_ ?_⟩
      · rintro j σ' G hj ⟨u13, u14, rfl, SG⟩
        have sG := st.same SG
        refine ⟨_, rfl, ((is.length : Nat) : Int), rfl, by omega, by omega, fun RD hRD => ?_⟩
        refine lc_range (lo := 0) (n := is.length) (fun i' G2 => Same G G2 ∧ G RD = none ∧ G2 RD = some (.lst (((List.range i').filter fun k => decide (k ≠ j)).map fun k : Nat => V.int (k : Nat)))) ⟨new_same hRD, hRD, upd_same⟩ ?_ ?_
        · rintro i' G2 hi' ⟨S2, E0, eE⟩
          have bt := butJ_take (j := j) (i := i')
          refine ⟨rfl, _, rfl, _, rfl, rfl, _, rfl, ?_⟩
          by_cases ij : i' = j
          · subst ij
            refine if_fa (by simp) ⟨S2, E0, ?_⟩
            rw [bt, if_neg (by simp), List.append_nil]
            exact eE
          · refine if_tr (by simp; omega) ⟨_, rfl, _, eE, small1000 ?_, fun a o e => ?_, E0, ?_⟩
            · rw [List.length_map]
              have := List.length_filter_le (fun k => decide (k ≠ j)) (List.range i')
              rw [List.length_range] at this
              omega
            · rw [upd_ne (ne_of_none e E0)]
              exact S2 _ _ e
            · rw [upd_same, bt, if_pos ij, List.map_append, Int.zero_add]
              rfl
        rintro G2 ⟨S2, _, eR⟩
        have eR : G2 RD = some (.lst ((butJ is.length j).map fun k : Nat => V.int (k : Nat))) := eR
        have sG := sG.same S2
        have ej := List.getElem?_eq_getElem hj
        have sj := seat_at asc ej
        obtain ⟨dx, _, _, _, _, _, a1⟩ := sG.c.meth
        refine ⟨_, rfl, x, dx, _, rfl, a1, cf_no _ _ _ _ _ (by decide +kernel) (by decide +kernel) (by decide +kernel) (by decide +kernel) (by decide +kernel), _, rfl, _, rfl, lb, _, _, _, rfl, rfl, SqL.of sG.el, at_of (j := j) (v := .int is[j]) (by omega) (by rw [List.getElem?_map, ej]; rfl), x, bs, is, tss, .int is[j], .sc (.int is[j]), rfl, sG.c, gb, ⟨rfl, rfl⟩, (fun q => by rw [sj] at q; cases q), fun j' ej' GW3 z3 SW3 c3 => ?_⟩
        obtain rfl : j = j' := by rw [sj] at ej'; exact Option.some.inj ej'
        have sG := sG.same SW3
        have eR := SW3 _ _ eR
        have blt : ∀ k ∈ butJ is.length j, k < is.length := fun k hk => (butJ_mem.mp hk).1
        have bpw := butJ_lt is.length j
        generalize butJ is.length j = ks at c3 eR blt bpw
        have kl := lt_len bpw blt
        have RR := sG.c.rows
        refine ⟨_, rfl, _, rfl, RD, rfl, ⟨_, SqL.of eR⟩, fun D5 hD5 => ?_⟩
        refine lc_list (K := K) (a := RD) (xs := ks.map fun j : Nat => V.int (j : Nat)) (fun i G3 => Same GW3 G3 ∧ GW3 D5 = none ∧ G3 D5 = some (.lst ((pickL is (ks.take i)).map V.int))) ⟨new_same hD5, hD5, upd_same⟩ (fun i G3 _ ⟨S, _⟩ => SqL.of (S _ _ eR)) ?_ ?_
        · rintro i y G3 hy ⟨S3, E0, eE⟩
          rw [List.getElem?_map] at hy
          cases hi : ks[i]? with
          | none => rw [hi] at hy; cases hy
          | some j =>
            rw [hi] at hy
            obtain rfl : V.int (j : Nat) = y := Option.some.inj hy
            have jb := blt j (List.mem_of_getElem? hi)
            have ej := List.getElem?_eq_getElem jb
            refine ⟨rfl, yesT ⟨_, rfl, _, rfl, lb, _, _, _, rfl, rfl, SqL.of (S3 _ _ sG.el), at_of (j := j) (v := .int is[j]) rfl (by rw [List.getElem?_map, ej]; rfl), _, eE, small1000 ?_, fun a o e => ?_, E0, ?_⟩⟩
            · rw [List.length_map, pickL_len, List.length_take]
              omega
            · rw [upd_ne (ne_of_none e E0)]
              exact S3 _ _ e
            · rw [upd_same, List.take_add_one, hi]
              unfold pickL
              rw [List.map_append, List.map_append]
              have q : (is[j]?).getD 0 = is[j] := by rw [ej]; rfl
              show _ = some (HO.lst (_ ++ [V.int ((is[j]?).getD 0)]))
              rw [q]
        rintro G4 ⟨S4, _, eD5⟩
        rw [List.length_map, List.take_length] at eD5
        have sG := sG.same S4
        refine ⟨_, rfl, _, rfl, T, RD, qs, tieF bs tss, is.length, ks, rfl, sG.L, S4 _ _ eR, by omega, blt, fun G5 DG gs gG => ?_⟩
        have LG := gG.L
        rw [← pickL_len (is := is) (js := ks)] at LG
        have sG := sG.same gG.S
        refine ⟨z3, b, D5, DG, gs, _, bs, pickL is ks, subT bs tss ks ks.length, rfl, (c3.keep S4).keep gG.S, gb, sG.eb, gG.S _ _ eD5, LG, fun a b ha hb ne => subT_cellI gb RR (fun j hj => by have := blt j hj; omega) (lt_nodup bpw) (by rw [pickL_len] at ha; exact ha) (by rw [pickL_len] at hb; exact hb) ne, fun G6 S6 => ⟨_, rfl, iteF ?_⟩⟩
        exact ⟨_, _, rfl, ((((SG.trans S2).trans SW3).trans S4).trans gG.S).trans S6⟩
      rintro σ22 H22 ⟨u13, u14, rfl, S22⟩
      have st := st.same S22
      have eH := S22 _ _ eH
      -- an odd label
      have il : (is.map V.int).length = is.length := List.length_map _
      refine ⟨_, rfl, _, rfl, _, _, rfl, rfl, ⟨by decide, by decide, by decide⟩, _, _, rfl, rfl, _, _, rfl, rfl, ⟨by decide, by decide, by decide⟩, (by show 5 ≤ sizeLine; decide), fun e1 he1 => ?_⟩
      have st23 := st.same (new_same (o := .lst [.int (-1), .int (10 ^ Int.toNat 9 + 1), .non, .bl true, .int (10 ^ Int.toNat 30)]) he1)
      have eH23 := new_same (o := .lst [.int (-1), .int (10 ^ Int.toNat 9 + 1), .non, .bl true, .int (10 ^ Int.toNat 30)]) he1 _ _ eH
      have ee1 : (upd H22 e1 (.lst [.int (-1), .int (10 ^ Int.toNat 9 + 1), .non, .bl true, .int (10 ^ Int.toNat 30)])) e1 = some (.lst [.int (-1), .int (10 ^ Int.toNat 9 + 1), .non, .bl true, .int (10 ^ Int.toNat 30)]) := upd_same
      refine ⟨_, rfl, lb, rfl, ⟨_, SqL.of st23.el⟩, fun OD hOD => ?_⟩
      have hOD' : (upd H22 e1 (.lst [.int (-1), .int (10 ^ Int.toNat 9 + 1), .non, .bl true, .int (10 ^ Int.toNat 30)])) OD = none := hOD
      generalize upd H22 e1 (.lst [.int (-1), .int (10 ^ Int.toNat 9 + 1), .non, .bl true, .int (10 ^ Int.toNat 30)]) = H23 at st23 eH23 ee1 hOD'
      refine lc_list (K := K) (a := lb) (xs := is.map V.int) (fun i G => Same H23 G ∧ H23 OD = none ∧ G OD = some (.lst ((((is.take i).filter fun n => !inV (.int (n + 1)) (is.map V.int)).map fun n => n + 1).map V.int))) ⟨new_same hOD', hOD', upd_same⟩ (fun i G _ ⟨S, _⟩ => SqL.of (S _ _ st23.el)) ?_ ?_
      · rintro i y G hy ⟨S2, D0, eD⟩
        rw [List.getElem?_map] at hy
        cases hi : is[i]? with
        | none => rw [hi] at hy; cases hy
        | some m' =>
          rw [hi] at hy
          obtain rfl : V.int m' = y := Option.some.inj hy
          have him := (List.getElem?_eq_some_iff.mp hi).1
          have ft := filter_take1 (p := fun n : Int => !inV (.int (n + 1)) (is.map V.int)) hi
          refine ⟨rfl, _, rfl, _, _, rfl, rfl, _, rfl, lb, _, rfl, .inl (SqL.of (S2 _ _ st23.el)), rfl, ints_flat is, _, rfl, ?_⟩
          have ft : ((is.take (i + 1)).filter fun n => !inV (.int (n + 1)) (is.map V.int)) = ((is.take i).filter fun n => !inV (.int (n + 1)) (is.map V.int)) ++ if (!inV (.int (m' + 1)) (is.map V.int)) = true then [m'] else [] := ft
          cases c1 : inV (.int (m' + 1)) (is.map V.int) with
          | true =>
            rw [c1] at ft
            refine iteF ⟨S2, D0, ?_⟩
            rw [ft]
            simp
            simp at eD
            exact eD
          | false =>
            rw [c1] at ft
            refine iteT ⟨_, rfl, _, _, rfl, rfl, _, eD, small1000 ?_, fun a o e => ?_, D0, ?_⟩
            · rw [List.length_map, List.length_map]
              have := List.length_filter_le (fun n : Int => !inV (.int (n + 1)) (is.map V.int)) (is.take i)
              rw [List.length_take] at this
              omega
            · rw [upd_ne (ne_of_none e D0)]
              exact S2 _ _ e
            · rw [upd_same, ft, if_pos (show (!false) = true from rfl), List.map_append, List.map_append]
              rfl
      rintro H24 ⟨S24, _, eO⟩
      rw [il, List.take_length] at eO
      have st := st23.same S24
      have eH := S24 _ _ eH23
      have ole : ((is.filter fun n => !inV (.int (n + 1)) (is.map V.int)).map fun n => n + 1).length ≤ 19 := by
        rw [List.length_map]
        have := List.length_filter_le (fun n : Int => !inV (.int (n + 1)) (is.map V.int)) is
        omega
      have omem : ∀ n ∈ ((is.filter fun n => !inV (.int (n + 1)) (is.map V.int)).map fun n => n + 1), n ∉ is := fun n hn => by
        obtain ⟨m, hm, rfl⟩ := List.mem_map.mp hn
        have := (List.mem_filter.mp hm).2
        rw [inV_ints] at this
        simpa using this
      generalize ((is.filter fun n => !inV (.int (n + 1)) (is.map V.int)).map fun n => n + 1) = os at eO ole omem
      refine ⟨e1, OD, _, _, rfl, rfl, S24 _ _ ee1, eO, Nat.le_of_lt (small1000 (by rw [List.length_map]; show 5 + _ ≤ 1000; omega)), fun PL hPL => ?_⟩
      have st25 := st.same (new_same (o := .lst ([.int (-1), .int (10 ^ Int.toNat 9 + 1), .non, .bl true, .int (10 ^ Int.toNat 30)] ++ os.map V.int)) hPL)
      refine ⟨h, q, PL, _, rfl, st25.hd, (st.hd.same_h' hPL).1, upd_same, (by rw [List.length_append]; show 0 < 5 + _; omega), (by rw [List.length_append, List.length_map]; show 5 + _ ≤ 1000; omega), fun H26 y ym B26 h26 => ?_⟩
      have st := st25.but B26 h26
      have eH := B26 _ _ nHh (new_same hPL _ _ eH)
      have nos : ∀ n : Int, n ∉ is → seat is (.int n) = none := fun n hn => by
        cases e : seat is (.int n) with
        | none => rfl
        | some j =>
          obtain ⟨m, em, hm, _⟩ := seat_some e
          obtain rfl : n = m := by injection em
          exact absurd (List.mem_of_getElem? hm) hn
      have odd : isSc y = true ∧ seat is y = none := by
        rcases List.mem_append.mp ym with ym | ym
        · simp only [List.mem_cons, List.not_mem_nil, or_false] at ym
          rcases ym with m | m | m | m | m <;> rw [m]
          · exact ⟨rfl, nos _ fun q => by have := (labs _ q).1; omega⟩
          · exact ⟨rfl, nos _ fun q => by have := (labs _ q).2; rw [show (10 : Int) ^ Int.toNat 9 = 1000000000 from rfl] at this; omega⟩
          · exact ⟨rfl, rfl⟩
          · exact ⟨rfl, rfl⟩
          · exact ⟨rfl, nos _ fun q => by have := (labs _ q).2; rw [show (10 : Int) ^ Int.toNat 30 = 1000000000000000000000000000000 from rfl] at this; omega⟩
        · obtain ⟨n, hn, rfl⟩ := List.mem_map.mp ym
          exact ⟨rfl, nos n (omem n hn)⟩
      obtain ⟨ysc, yno⟩ := odd
      clear ym eO ee1 eH23 st23 st25
      have hl2 : ((pickL is cs).map V.int).length ≤ 9 := by rw [List.length_map, pickL_len]; exact c9
      -- refused: a part
      refine ⟨_, rfl, _, rfl, _, rfl, _, rfl, _, rfl, (by show 2 ≤ sizeLine; decide), fun z1 hz1 => ?_⟩
      have T1 := new_same (o := .lst [y, .int (-5)]) hz1
      refine ⟨HD, z1, _, _, rfl, rfl, T1 _ _ eH, upd_same, Nat.le_of_lt (small1000 (by show _ + 2 ≤ 1000; omega)), fun z2 hz2 => ?_⟩
      have T2 := T1.trans (new_same (o := .lst ((pickL is cs).map V.int ++ [y, .int (-5)])) hz2)
      have s2 := st.same T2
      refine ⟨x, z2, 0, bs, is, tss, y, _, rfl, s2.c, gb, ysc, yno, upd_same, (by rw [List.length_append]; show _ + 2 ≤ 900; omega), fun u hu => ?_, fun _ => ⟨((pickL is cs).map V.int).length, ?_, fun i' u lt eu => ?_⟩, fun H27 S27 => ⟨_, rfl, iteF ?_⟩⟩
      · rcases List.mem_append.mp hu with hu | hu
        · obtain ⟨n, _, rfl⟩ := List.mem_map.mp hu
          rfl
        · simp only [List.mem_cons, List.not_mem_nil, or_false] at hu
          rcases hu with rfl | rfl
          · exact ysc
          · rfl
      · rw [List.getElem?_append_right (Nat.le_refl _), Nat.sub_self]
        rfl
      · rw [List.getElem?_append_left lt] at eu
        exact hseat u (List.mem_of_getElem? eu)
      -- refused: all but one
      have s3 := s2.same S27
      refine ⟨_, rfl, _, rfl, Nat.zero_le _, fun z3 hz3 => ?_⟩
      have s4 := s3.same (new_same (o := .lst []) hz3)
      refine ⟨x, z3, 1, bs, is, tss, y, [], rfl, s4.c, gb, ysc, yno, upd_same, by decide, (fun u hu => nomatch hu), (fun q => by cases q), fun H28 S28 => ⟨_, rfl, iteF ?_⟩⟩
      have s5 := s4.same S28
      -- nothing is changed
      refine ⟨_, rfl, _, rfl, _, rfl, _, rfl, x, b, lb, T, qs, tieF bs tss, bs, is, tss, rfl, s5.c, gb, s5.eb, s5.el, s5.L, fun a b _ _ ne => by unfold tieF; rw [if_neg (fun q => ne q.symm)], fun H29 S29 => ⟨_, rfl, iteF ?_⟩⟩
      exact ⟨_, _, _, _, _, _, _, _, _, _, _, _, _, _, _, _, _, _, rfl, (s5.same S29).hd⟩
    · rintro σ H' ⟨v2, v3, v4, v5, v6, v7, v8, v9, v10, v11, v12, v13, v14, v15, v16, v17, v18, v19, rfl, h1⟩
      exact k _
end
end J

set_option Elab.async false
set_option linter.all false
set_option maxRecDepth 100000
set_option maxHeartbeats 8000000
namespace J
open PySem L2
theorem kit_me {K : PySem.W.Frag} {S : Addr} : PySem.W.kitOne K (.ref S) (.ref S) = some true := by
  unfold PySem.W.kitOne
  rw [if_pos (by simp)]
theorem kit_no {K : PySem.W.Frag} {S : Addr} {T : String} (h2 : PySem.W.isClsIn K S = true) (h3 : PySem.W.typeIn K (.ref S) = some (.type "type")) (h4 : PySem.W.subIn K (.type T) (.ref S) = some false) : PySem.W.kitOne K (.type T) (.ref S) = some false := by
  have e2 : ((PySem.W.clsIn K S).isSome && PySem.W.typeIn K (.ref S) == some (.type "type")) = true := by
    have q : (PySem.W.clsIn K S).isSome = true := h2
    rw [q, h3]
    rfl
  unfold PySem.W.kitOne
  rw [if_neg (by simp)]
  show (if ((PySem.W.clsIn K S).isSome && PySem.W.typeIn K (.ref S) == some (.type "type")) = true then PySem.W.subIn K (.type T) (.ref S) else none) = some false
  rw [if_pos e2]
  exact h4
theorem fund_mk {K : PySem.W.Frag} {x qual : Str} {st : Stmt} {f Td e1 e2 : Addr} {oc kV doc pm cd ct cT : Value} {od an dT : Option Addr} {sl slT : Array (Option Value)} {nT : Nat} (l : K.lookup f = some ⟨oc, od, .func (PySem.W.fnOf x qual (defArgs st) (defBody st) (defScope st) (.ref Td) kV doc pm an cd ct), sl⟩)
    (lT : K.lookup Td = some ⟨cT, dT, .seq #[.ref e1, .ref e2] nT, slT⟩) (c : PySem.W.codeIn K cd qual = true) (k : PySem.W.keepIn K (.ref f) = true) : FunD K x qual (defArgs st) (defBody st) (defScope st) [V.ref e1, V.ref e2] [] f (PySem.W.fnOf x qual (defArgs st) (defBody st) (defScope st) (.ref Td) kV doc pm an cd ct) :=
  ⟨⟨oc, od, .ref Td, kV, doc, pm, an, cd, ct, sl, rfl, l, c, .inr ⟨by simp, Td, _, [.ref e1, .ref e2], nT, rfl, lT, rfl, .cons rfl (.cons rfl .nil)⟩, .inl rfl⟩, k⟩
theorem fund_binds {K : PySem.W.Frag} {x qual : Str} {params : Arguments} {body : List Stmt} {scope : Scope} {a b : V} {f : Addr} {fd : FuncData} {ps : List Str} (F : FunD K x qual params body scope [a, b] [] f fd)
    (h : ∀ (T : Addr) (kV doc pm : Value) (an : Option Addr) (cdv ct : Value) (us its : List Value), us.length = ps.length → its.length = 2 →
      ∃ k, bindArgs (PySem.W.fnOf x qual params body scope (.ref T) kV doc pm an cdv ct) ⟨us, []⟩ = seqItems? (.ref T) >>= k ∧ k (some its.toArray) = pure (ps.zip (us ++ its.drop 2))) : Binds K fd ps [] := by
  obtain ⟨ds, v, bd⟩ := F.binds1 ps.length 2 (by simp) (by simp) h
  have v' : Vals [] ds := v
  cases v'
  exact bd
/-- an error of the class at S is what its own name catches -/
theorem exm_own {K : PySem.W.Frag} {S : Addr} (h1 : PySem.W.subIn K (.ref S) (.type "BaseException") = some true) (h2 : PySem.W.isClsIn K S = true) (h3 : PySem.W.typeIn K (.ref S) = some (.type "type")) (h4 : PySem.W.subIn K (.ref S) (.ref S) = some true) :
    PySem.W.exmOne K (.ref S) (.ref S) = some true := by
  have e1 : (PySem.W.subIn K (.ref S) (.type "BaseException") == some true) = true := by rw [h1]; rfl
  have e2 : ((PySem.W.clsIn K S).isSome && PySem.W.typeIn K (.ref S) == some (.type "type")) = true := by
    have q : (PySem.W.clsIn K S).isSome = true := h2
    rw [q, h3]
    rfl
  unfold PySem.W.exmOne
  rw [if_pos e1]
  show (if ((PySem.W.clsIn K S).isSome && PySem.W.typeIn K (.ref S) == some (.type "type")) = true then PySem.W.subIn K (.ref S) (.ref S) else none) = some true
  rw [if_pos e2]
  exact h4
/-- an error of the class at A, asked whether the name of the class at S catches it -/
theorem exm_of {K : PySem.W.Frag} {A S : Addr} {b : Bool} (h1 : PySem.W.subIn K (.ref S) (.type "BaseException") = some true) (h2 : PySem.W.isClsIn K S = true) (h3 : PySem.W.typeIn K (.ref S) = some (.type "type")) (h4 : PySem.W.subIn K (.ref A) (.ref S) = some b) :
    PySem.W.exmOne K (.ref A) (.ref S) = some b := by
  have e1 : (PySem.W.subIn K (.ref S) (.type "BaseException") == some true) = true := by rw [h1]; rfl
  have e2 : ((PySem.W.clsIn K S).isSome && PySem.W.typeIn K (.ref S) == some (.type "type")) = true := by
    have q : (PySem.W.clsIn K S).isSome = true := h2
    rw [q, h3]
    rfl
  unfold PySem.W.exmOne
  rw [if_pos e1]
  show (if ((PySem.W.clsIn K S).isSome && PySem.W.typeIn K (.ref S) == some (.type "type")) = true then PySem.W.subIn K (.ref A) (.ref S) else none) = some b
  rw [if_pos e2]
  exact h4
theorem all_mk {l : PySem.W.OpenLaw} {w : World} {K : PySem.W.Frag} {h : Heap} {mg : Str → Option Value} {fa : Addr} (X : K.In h) (G : h.Ns mainGlobals mg) (hfa : mg "law" = some (.ref fa))
    {GE CB f_xCB CI f_xCI CE f_xCE CN f_xCN CT CC f_W f_LB f_Q f_CK f_tI f_tH f_tE f_tB f_CR f_CC2 f_TO f_cI TdcI e1cI e2cI f_cL f_cC f_cE f_cP f_cR f_pf f_wr f_se f_po f_wo f_X f_H f_D f_K f_B f_P f_PT f_RW f_KO f_TB f_IS f_RF f_NC f_V : Addr} {oc_xCB kv_xCB dc_xCB pm_xCB cd_xCB ct_xCB oc_xCI kv_xCI dc_xCI pm_xCI cd_xCI ct_xCI oc_xCE kv_xCE dc_xCE pm_xCE cd_xCE ct_xCE oc_xCN kv_xCN dc_xCN pm_xCN cd_xCN ct_xCN oc_W kv_W dc_W pm_W cd_W ct_W oc_LB kv_LB dc_LB pm_LB cd_LB ct_LB oc_Q kv_Q dc_Q pm_Q cd_Q ct_Q oc_CK kv_CK dc_CK pm_CK cd_CK ct_CK oc_tI kv_tI dc_tI pm_tI cd_tI ct_tI oc_tH kv_tH dc_tH pm_tH cd_tH ct_tH oc_tE kv_tE dc_tE pm_tE cd_tE ct_tE oc_tB kv_tB dc_tB pm_tB cd_tB ct_tB oc_CR kv_CR dc_CR pm_CR cd_CR ct_CR oc_CC2 kv_CC2 dc_CC2 pm_CC2 cd_CC2 ct_CC2 oc_TO kv_TO dc_TO pm_TO cd_TO ct_TO oc_cI kv_cI dc_cI pm_cI cd_cI ct_cI cTcI oc_cL kv_cL dc_cL pm_cL cd_cL ct_cL oc_cC kv_cC dc_cC pm_cC cd_cC ct_cC oc_cE kv_cE dc_cE pm_cE cd_cE ct_cE oc_cP kv_cP dc_cP pm_cP cd_cP ct_cP oc_cR kv_cR dc_cR pm_cR cd_cR ct_cR oc_pf kv_pf dc_pf pm_pf cd_pf ct_pf oc_wr kv_wr dc_wr pm_wr cd_wr ct_wr oc_se kv_se dc_se pm_se cd_se ct_se oc_po kv_po dc_po pm_po cd_po ct_po oc_wo kv_wo dc_wo pm_wo cd_wo ct_wo oc_X kv_X dc_X pm_X cd_X ct_X oc_H kv_H dc_H pm_H cd_H ct_H oc_D kv_D dc_D pm_D cd_D ct_D oc_K kv_K dc_K pm_K cd_K ct_K oc_B kv_B dc_B pm_B cd_B ct_B oc_P kv_P dc_P pm_P cd_P ct_P oc_PT kv_PT dc_PT pm_PT cd_PT ct_PT oc_RW kv_RW dc_RW pm_RW cd_RW ct_RW oc_KO kv_KO dc_KO pm_KO cd_KO ct_KO oc_TB kv_TB dc_TB pm_TB cd_TB ct_TB oc_IS kv_IS dc_IS pm_IS cd_IS ct_IS oc_RF kv_RF dc_RF pm_RF cd_RF ct_RF oc_NC kv_NC dc_NC pm_NC cd_NC ct_NC oc_V kv_V dc_V pm_V cd_V ct_V : Value} {od_xCB an_xCB od_xCI an_xCI od_xCE an_xCE od_xCN an_xCN od_W an_W od_LB an_LB od_Q an_Q od_CK an_CK od_tI an_tI od_tH an_tH od_tE an_tE od_tB an_tB od_CR an_CR od_CC2 an_CC2 od_TO an_TO od_cI an_cI dTcI od_cL an_cL od_cC an_cC od_cE an_cE od_cP an_cP od_cR an_cR od_pf an_pf od_wr an_wr od_se an_se od_po an_po od_wo an_wo od_X an_X od_H an_H od_D an_D od_K an_K od_B an_B od_P an_P od_PT an_PT od_RW an_RW od_KO an_KO od_TB an_TB od_IS an_IS od_RF an_RF od_NC an_NC od_V an_V : Option Addr} {sl_xCB sl_xCI sl_xCE sl_xCN sl_W sl_LB sl_Q sl_CK sl_tI sl_tH sl_tE sl_tB sl_CR sl_CC2 sl_TO sl_cI sTcI sl_cL sl_cC sl_cE sl_cP sl_cR sl_pf sl_wr sl_se sl_po sl_wo sl_X sl_H sl_D sl_K sl_B sl_P sl_PT sl_RW sl_KO sl_TB sl_IS sl_RF sl_NC sl_V : Array (Option Value)} {tM tL tG : Tok} {nTcI : Nat}
    {nmCB qCB : Str} {NCB : Addr} {bsCB : List Value} {snCB : List Str} {subCB : List Value} {abCB : Bool} {colCB : Option Bool} {ddCB : Option Addr} {m0CB m1CB m2CB m3CB m5CB : Option Value}
    {nmCI qCI : Str} {NCI : Addr} {bsCI : List Value} {snCI : List Str} {subCI : List Value} {abCI : Bool} {colCI : Option Bool} {ddCI : Option Addr} {m0CI m1CI m2CI m3CI m5CI : Option Value}
    {nmCE qCE : Str} {NCE : Addr} {bsCE : List Value} {snCE : List Str} {subCE : List Value} {abCE : Bool} {colCE : Option Bool} {ddCE : Option Addr} {m0CE m1CE m2CE m3CE m5CE : Option Value}
    {nmCN qCN : Str} {NCN : Addr} {bsCN : List Value} {snCN : List Str} {subCN : List Value} {abCN : Bool} {colCN : Option Bool} {ddCN : Option Addr} {m0CN m1CN m2CN m3CN m5CN : Option Value}
    (z_len : PySem.W.nsIn K mainGlobals "len" = some none)
    (z_isinstance : PySem.W.nsIn K mainGlobals "isinstance" = some none)
    (z_int : PySem.W.nsIn K mainGlobals "int" = some none)
    (z_bool : PySem.W.nsIn K mainGlobals "bool" = some none)
    (z_list : PySem.W.nsIn K mainGlobals "list" = some none)
    (z_tuple : PySem.W.nsIn K mainGlobals "tuple" = some none)
    (z_range : PySem.W.nsIn K mainGlobals "range" = some none)
    (z_abs : PySem.W.nsIn K mainGlobals "abs" = some none)
    (z_enumerate : PySem.W.nsIn K mainGlobals "enumerate" = some none)
    (gM : PySem.W.nsIn K mainGlobals "MOST_TIES" = some (some (.int 4 tM)))
    (gL : PySem.W.nsIn K mainGlobals "MOST_LABEL" = some (some (.int 1000000000 tL)))
    (gG : PySem.W.nsIn K mainGlobals "MOST_GUESTS" = some (some (.int 60 tG)))
    (aCB : PySem.W.nsIn K mainGlobals "BadTies" = some (some (.ref CB)))
    (axCB : PySem.W.findIn K (.ref CB) "__init__" = some (some (.ref f_xCB)))
    (ixCB : PySem.W.typeIn K (.ref f_xCB) = some (.type "function"))
    (lxCB : K.lookup f_xCB = some ⟨oc_xCB, od_xCB, .func (PySem.W.fnOf "__init__" "BadTies.__init__" (defArgs s_BadTies_init) (defBody s_BadTies_init) (defScope s_BadTies_init) .none kv_xCB dc_xCB pm_xCB an_xCB cd_xCB ct_xCB), sl_xCB⟩)
    (cxCB : PySem.W.codeIn K cd_xCB "BadTies.__init__" = true)
    (kxCB : PySem.W.keepIn K (.ref f_xCB) = true)
    (xCB : K.lookup CB = some (excClassObj nmCB qCB CB NCB bsCB [.ref GE, .type "ValueError", .type "Exception", .type "BaseException", .type "object"] true snCB subCB abCB colCB ddCB m0CB m1CB m2CB m3CB m5CB "ValueError.__new__"))
    (saCB : PySem.W.findIn K (.ref CB) "__setattr__" = some (some (.builtin "object.__setattr__")))
    (gaCB : PySem.W.findIn K (.ref CB) "__getattribute__" = some (some (.builtin "BaseException.__getattribute__")))
    (ggCB : PySem.W.findIn K (.ref CB) "__getattr__" = some none)
    (no0CB : PySem.W.findIn K (.ref CB) "what" = some none)
    (kcCB : PySem.W.keepIn K (.ref CB) = true)
    (exCB : PySem.W.subIn K (.ref CB) (.type "BaseException") = some true)
    (tyCB : PySem.W.typeIn K (.ref CB) = some (.type "type"))
    (hdCB : PySem.W.hasDictIn K CB = true)
    (icCB : PySem.W.isClsIn K CB = true)
    (scCB : PySem.W.subIn K (.ref CB) (.ref CB) = some true)
    (aCI : PySem.W.nsIn K mainGlobals "NoTie" = some (some (.ref CI)))
    (axCI : PySem.W.findIn K (.ref CI) "__init__" = some (some (.ref f_xCI)))
    (ixCI : PySem.W.typeIn K (.ref f_xCI) = some (.type "function"))
    (lxCI : K.lookup f_xCI = some ⟨oc_xCI, od_xCI, .func (PySem.W.fnOf "__init__" "NoTie.__init__" (defArgs s_NoTie_init) (defBody s_NoTie_init) (defScope s_NoTie_init) .none kv_xCI dc_xCI pm_xCI an_xCI cd_xCI ct_xCI), sl_xCI⟩)
    (cxCI : PySem.W.codeIn K cd_xCI "NoTie.__init__" = true)
    (kxCI : PySem.W.keepIn K (.ref f_xCI) = true)
    (xCI : K.lookup CI = some (excClassObj nmCI qCI CI NCI bsCI [.ref GE, .type "ValueError", .type "Exception", .type "BaseException", .type "object"] true snCI subCI abCI colCI ddCI m0CI m1CI m2CI m3CI m5CI "ValueError.__new__"))
    (saCI : PySem.W.findIn K (.ref CI) "__setattr__" = some (some (.builtin "object.__setattr__")))
    (gaCI : PySem.W.findIn K (.ref CI) "__getattribute__" = some (some (.builtin "BaseException.__getattribute__")))
    (ggCI : PySem.W.findIn K (.ref CI) "__getattr__" = some none)
    (no0CI : PySem.W.findIn K (.ref CI) "tie" = some none)
    (kcCI : PySem.W.keepIn K (.ref CI) = true)
    (exCI : PySem.W.subIn K (.ref CI) (.type "BaseException") = some true)
    (tyCI : PySem.W.typeIn K (.ref CI) = some (.type "type"))
    (hdCI : PySem.W.hasDictIn K CI = true)
    (icCI : PySem.W.isClsIn K CI = true)
    (scCI : PySem.W.subIn K (.ref CI) (.ref CI) = some true)
    (aCE : PySem.W.nsIn K mainGlobals "BadCompany" = some (some (.ref CE)))
    (axCE : PySem.W.findIn K (.ref CE) "__init__" = some (some (.ref f_xCE)))
    (ixCE : PySem.W.typeIn K (.ref f_xCE) = some (.type "function"))
    (lxCE : K.lookup f_xCE = some ⟨oc_xCE, od_xCE, .func (PySem.W.fnOf "__init__" "BadCompany.__init__" (defArgs s_BadCompany_init) (defBody s_BadCompany_init) (defScope s_BadCompany_init) .none kv_xCE dc_xCE pm_xCE an_xCE cd_xCE ct_xCE), sl_xCE⟩)
    (cxCE : PySem.W.codeIn K cd_xCE "BadCompany.__init__" = true)
    (kxCE : PySem.W.keepIn K (.ref f_xCE) = true)
    (xCE : K.lookup CE = some (excClassObj nmCE qCE CE NCE bsCE [.ref GE, .type "ValueError", .type "Exception", .type "BaseException", .type "object"] true snCE subCE abCE colCE ddCE m0CE m1CE m2CE m3CE m5CE "ValueError.__new__"))
    (saCE : PySem.W.findIn K (.ref CE) "__setattr__" = some (some (.builtin "object.__setattr__")))
    (gaCE : PySem.W.findIn K (.ref CE) "__getattribute__" = some (some (.builtin "BaseException.__getattribute__")))
    (ggCE : PySem.W.findIn K (.ref CE) "__getattr__" = some none)
    (no0CE : PySem.W.findIn K (.ref CE) "index" = some none)
    (no1CE : PySem.W.findIn K (.ref CE) "what" = some none)
    (kcCE : PySem.W.keepIn K (.ref CE) = true)
    (exCE : PySem.W.subIn K (.ref CE) (.type "BaseException") = some true)
    (tyCE : PySem.W.typeIn K (.ref CE) = some (.type "type"))
    (hdCE : PySem.W.hasDictIn K CE = true)
    (icCE : PySem.W.isClsIn K CE = true)
    (scCE : PySem.W.subIn K (.ref CE) (.ref CE) = some true)
    (aCN : PySem.W.nsIn K mainGlobals "NoGuest" = some (some (.ref CN)))
    (axCN : PySem.W.findIn K (.ref CN) "__init__" = some (some (.ref f_xCN)))
    (ixCN : PySem.W.typeIn K (.ref f_xCN) = some (.type "function"))
    (lxCN : K.lookup f_xCN = some ⟨oc_xCN, od_xCN, .func (PySem.W.fnOf "__init__" "NoGuest.__init__" (defArgs s_NoGuest_init) (defBody s_NoGuest_init) (defScope s_NoGuest_init) .none kv_xCN dc_xCN pm_xCN an_xCN cd_xCN ct_xCN), sl_xCN⟩)
    (cxCN : PySem.W.codeIn K cd_xCN "NoGuest.__init__" = true)
    (kxCN : PySem.W.keepIn K (.ref f_xCN) = true)
    (xCN : K.lookup CN = some (excClassObj nmCN qCN CN NCN bsCN [.ref GE, .type "ValueError", .type "Exception", .type "BaseException", .type "object"] true snCN subCN abCN colCN ddCN m0CN m1CN m2CN m3CN m5CN "ValueError.__new__"))
    (saCN : PySem.W.findIn K (.ref CN) "__setattr__" = some (some (.builtin "object.__setattr__")))
    (gaCN : PySem.W.findIn K (.ref CN) "__getattribute__" = some (some (.builtin "BaseException.__getattribute__")))
    (ggCN : PySem.W.findIn K (.ref CN) "__getattr__" = some none)
    (no0CN : PySem.W.findIn K (.ref CN) "label" = some none)
    (kcCN : PySem.W.keepIn K (.ref CN) = true)
    (exCN : PySem.W.subIn K (.ref CN) (.type "BaseException") = some true)
    (tyCN : PySem.W.typeIn K (.ref CN) = some (.type "type"))
    (hdCN : PySem.W.hasDictIn K CN = true)
    (icCN : PySem.W.isClsIn K CN = true)
    (scCN : PySem.W.subIn K (.ref CN) (.ref CN) = some true)
    (aCT : PySem.W.nsIn K mainGlobals "Ties" = some (some (.ref CT)))
    (pgCT : PySem.W.plainGet K CT Str.empty = true)
    (hdCT : PySem.W.hasDictIn K CT = true)
    (poCT : PySem.W.plainOver K CT = true)
    (saCT : PySem.W.findIn K (.ref CT) "__setattr__" = some (some (.builtin "object.__setattr__")))
    (mkCT : PySem.W.makesIn K CT = true)
    (kcCT : PySem.W.keepIn K (.ref CT) = true)
    (n0CT : PySem.W.findIn K (.ref CT) "backs" = some none)
    (n1CT : PySem.W.findIn K (.ref CT) "many" = some none)
    (haCT : PySem.W.findIn K (.ref CT) "__class__" = some (some (.builtin "object.__class__")))
    (hn0 : PySem.W.specialIn K (.builtin "object.__class__") "__get__" = some (some (.builtin "getset_descriptor.__get__")))
    (htk0 : PySem.W.takesIn K (.builtin "object.__class__") = some true)
    (hmCT : PySem.W.mroIn K CT (.type "object") = some true)
    (icCT : PySem.W.isClsIn K CT = true)
    (tyCT : PySem.W.typeIn K (.ref CT) = some (.type "type"))
    (suCT : PySem.W.subIn K (.type "tuple") (.ref CT) = some false)
    (nfCT : PySem.W.notFirst K CT (.type "tuple") = true)
    (aCC : PySem.W.nsIn K mainGlobals "Company" = some (some (.ref CC)))
    (pgCC : PySem.W.plainGet K CC Str.empty = true)
    (hdCC : PySem.W.hasDictIn K CC = true)
    (poCC : PySem.W.plainOver K CC = true)
    (saCC : PySem.W.findIn K (.ref CC) "__setattr__" = some (some (.builtin "object.__setattr__")))
    (mkCC : PySem.W.makesIn K CC = true)
    (kcCC : PySem.W.keepIn K (.ref CC) = true)
    (n0CC : PySem.W.findIn K (.ref CC) "ties" = some none)
    (n1CC : PySem.W.findIn K (.ref CC) "guests" = some none)
    (n2CC : PySem.W.findIn K (.ref CC) "rows" = some none)
    (n3CC : PySem.W.findIn K (.ref CC) "table" = some none)
    (n4CC : PySem.W.findIn K (.ref CC) "_places" = some none)
    (haCC : PySem.W.findIn K (.ref CC) "__class__" = some (some (.builtin "object.__class__")))
    (hmCC : PySem.W.mroIn K CC (.type "object") = some true)
    (icCC : PySem.W.isClsIn K CC = true)
    (tyCC : PySem.W.typeIn K (.ref CC) = some (.type "type"))
    (suCC : PySem.W.subIn K (.type "tuple") (.ref CC) = some false)
    (nfCC : PySem.W.notFirst K CC (.type "tuple") = true)
    (z_all : PySem.W.nsIn K mainGlobals "all" = some none)
    (aW : PySem.W.nsIn K mainGlobals "is_whole" = some (some (.ref f_W)))
    (lW : K.lookup f_W = some ⟨oc_W, od_W, .func (PySem.W.fnOf "is_whole" "is_whole" (defArgs s_is_whole) (defBody s_is_whole) (defScope s_is_whole) .none kv_W dc_W pm_W an_W cd_W ct_W), sl_W⟩)
    (cW : PySem.W.codeIn K cd_W "is_whole" = true)
    (kW : PySem.W.keepIn K (.ref f_W) = true)
    (aLB : PySem.W.nsIn K mainGlobals "is_label" = some (some (.ref f_LB)))
    (lLB : K.lookup f_LB = some ⟨oc_LB, od_LB, .func (PySem.W.fnOf "is_label" "is_label" (defArgs s_is_label) (defBody s_is_label) (defScope s_is_label) .none kv_LB dc_LB pm_LB an_LB cd_LB ct_LB), sl_LB⟩)
    (cLB : PySem.W.codeIn K cd_LB "is_label" = true)
    (kLB : PySem.W.keepIn K (.ref f_LB) = true)
    (aQ : PySem.W.nsIn K mainGlobals "is_sequence" = some (some (.ref f_Q)))
    (lQ : K.lookup f_Q = some ⟨oc_Q, od_Q, .func (PySem.W.fnOf "is_sequence" "is_sequence" (defArgs s_is_sequence) (defBody s_is_sequence) (defScope s_is_sequence) .none kv_Q dc_Q pm_Q an_Q cd_Q ct_Q), sl_Q⟩)
    (cQ : PySem.W.codeIn K cd_Q "is_sequence" = true)
    (kQ : PySem.W.keepIn K (.ref f_Q) = true)
    (aCK : PySem.W.nsIn K mainGlobals "ties_fault" = some (some (.ref f_CK)))
    (lCK : K.lookup f_CK = some ⟨oc_CK, od_CK, .func (PySem.W.fnOf "ties_fault" "ties_fault" (defArgs s_ties_fault) (defBody s_ties_fault) (defScope s_ties_fault) .none kv_CK dc_CK pm_CK an_CK cd_CK ct_CK), sl_CK⟩)
    (cCK : PySem.W.codeIn K cd_CK "ties_fault" = true)
    (kCK : PySem.W.keepIn K (.ref f_CK) = true)
    (atI : PySem.W.findIn K (.ref CT) "__init__" = some (some (.ref f_tI)))
    (itI : PySem.W.isFn K (.ref f_tI) = true)
    (ltI : K.lookup f_tI = some ⟨oc_tI, od_tI, .func (PySem.W.fnOf "__init__" "Ties.__init__" (defArgs s_Ties_init) (defBody s_Ties_init) (defScope s_Ties_init) .none kv_tI dc_tI pm_tI an_tI cd_tI ct_tI), sl_tI⟩)
    (ctI : PySem.W.codeIn K cd_tI "Ties.__init__" = true)
    (ktI : PySem.W.keepIn K (.ref f_tI) = true)
    (atH : PySem.W.findIn K (.ref CT) "has" = some (some (.ref f_tH)))
    (itH : PySem.W.isFn K (.ref f_tH) = true)
    (ltH : K.lookup f_tH = some ⟨oc_tH, od_tH, .func (PySem.W.fnOf "has" "Ties.has" (defArgs s_Ties_has) (defBody s_Ties_has) (defScope s_Ties_has) .none kv_tH dc_tH pm_tH an_tH cd_tH ct_tH), sl_tH⟩)
    (ctH : PySem.W.codeIn K cd_tH "Ties.has" = true)
    (ktH : PySem.W.keepIn K (.ref f_tH) = true)
    (atE : PySem.W.findIn K (.ref CT) "__eq__" = some (some (.ref f_tE)))
    (itE : PySem.W.isFn K (.ref f_tE) = true)
    (ltE : K.lookup f_tE = some ⟨oc_tE, od_tE, .func (PySem.W.fnOf "__eq__" "Ties.__eq__" (defArgs s_Ties_eq) (defBody s_Ties_eq) (defScope s_Ties_eq) .none kv_tE dc_tE pm_tE an_tE cd_tE ct_tE), sl_tE⟩)
    (ctE : PySem.W.codeIn K cd_tE "Ties.__eq__" = true)
    (ktE : PySem.W.keepIn K (.ref f_tE) = true)
    (atB : PySem.W.findIn K (.ref CT) "back" = some (some (.ref f_tB)))
    (itB : PySem.W.isFn K (.ref f_tB) = true)
    (ltB : K.lookup f_tB = some ⟨oc_tB, od_tB, .func (PySem.W.fnOf "back" "Ties.back" (defArgs s_Ties_back) (defBody s_Ties_back) (defScope s_Ties_back) .none kv_tB dc_tB pm_tB an_tB cd_tB ct_tB), sl_tB⟩)
    (ctB : PySem.W.codeIn K cd_tB "Ties.back" = true)
    (ktB : PySem.W.keepIn K (.ref f_tB) = true)
    (aCR : PySem.W.nsIn K mainGlobals "_check_row" = some (some (.ref f_CR)))
    (lCR : K.lookup f_CR = some ⟨oc_CR, od_CR, .func (PySem.W.fnOf "_check_row" "_check_row" (defArgs s_check_row) (defBody s_check_row) (defScope s_check_row) .none kv_CR dc_CR pm_CR an_CR cd_CR ct_CR), sl_CR⟩)
    (cCR : PySem.W.codeIn K cd_CR "_check_row" = true)
    (kCR : PySem.W.keepIn K (.ref f_CR) = true)
    (aCC2 : PySem.W.nsIn K mainGlobals "_check_company" = some (some (.ref f_CC2)))
    (lCC2 : K.lookup f_CC2 = some ⟨oc_CC2, od_CC2, .func (PySem.W.fnOf "_check_company" "_check_company" (defArgs s_check_company) (defBody s_check_company) (defScope s_check_company) .none kv_CC2 dc_CC2 pm_CC2 an_CC2 cd_CC2 ct_CC2), sl_CC2⟩)
    (cCC2 : PySem.W.codeIn K cd_CC2 "_check_company" = true)
    (kCC2 : PySem.W.keepIn K (.ref f_CC2) = true)
    (aTO : PySem.W.nsIn K mainGlobals "_table_of" = some (some (.ref f_TO)))
    (lTO : K.lookup f_TO = some ⟨oc_TO, od_TO, .func (PySem.W.fnOf "_table_of" "_table_of" (defArgs s_table_of) (defBody s_table_of) (defScope s_table_of) .none kv_TO dc_TO pm_TO an_TO cd_TO ct_TO), sl_TO⟩)
    (cTO : PySem.W.codeIn K cd_TO "_table_of" = true)
    (kTO : PySem.W.keepIn K (.ref f_TO) = true)
    (acI : PySem.W.findIn K (.ref CC) "__init__" = some (some (.ref f_cI)))
    (icI : PySem.W.isFn K (.ref f_cI) = true)
    (lcI : K.lookup f_cI = some ⟨oc_cI, od_cI, .func (PySem.W.fnOf "__init__" "Company.__init__" (defArgs s_Company_init) (defBody s_Company_init) (defScope s_Company_init) (.ref TdcI) kv_cI dc_cI pm_cI an_cI cd_cI ct_cI), sl_cI⟩)
    (lTcI : K.lookup TdcI = some ⟨cTcI, dTcI, .seq #[.ref e1cI, .ref e2cI] nTcI, sTcI⟩)
    (ccI : PySem.W.codeIn K cd_cI "Company.__init__" = true)
    (kcI : PySem.W.keepIn K (.ref f_cI) = true)
    (acL : PySem.W.findIn K (.ref CC) "__len__" = some (some (.ref f_cL)))
    (icL : PySem.W.isFn K (.ref f_cL) = true)
    (lcL : K.lookup f_cL = some ⟨oc_cL, od_cL, .func (PySem.W.fnOf "__len__" "Company.__len__" (defArgs s_Company_len) (defBody s_Company_len) (defScope s_Company_len) .none kv_cL dc_cL pm_cL an_cL cd_cL ct_cL), sl_cL⟩)
    (ccL : PySem.W.codeIn K cd_cL "Company.__len__" = true)
    (kcL : PySem.W.keepIn K (.ref f_cL) = true)
    (acC : PySem.W.findIn K (.ref CC) "__contains__" = some (some (.ref f_cC)))
    (icC : PySem.W.isFn K (.ref f_cC) = true)
    (lcC : K.lookup f_cC = some ⟨oc_cC, od_cC, .func (PySem.W.fnOf "__contains__" "Company.__contains__" (defArgs s_Company_contains) (defBody s_Company_contains) (defScope s_Company_contains) .none kv_cC dc_cC pm_cC an_cC cd_cC ct_cC), sl_cC⟩)
    (ccC : PySem.W.codeIn K cd_cC "Company.__contains__" = true)
    (kcC : PySem.W.keepIn K (.ref f_cC) = true)
    (acE : PySem.W.findIn K (.ref CC) "__eq__" = some (some (.ref f_cE)))
    (icE : PySem.W.isFn K (.ref f_cE) = true)
    (lcE : K.lookup f_cE = some ⟨oc_cE, od_cE, .func (PySem.W.fnOf "__eq__" "Company.__eq__" (defArgs s_Company_eq) (defBody s_Company_eq) (defScope s_Company_eq) .none kv_cE dc_cE pm_cE an_cE cd_cE ct_cE), sl_cE⟩)
    (ccE : PySem.W.codeIn K cd_cE "Company.__eq__" = true)
    (kcE : PySem.W.keepIn K (.ref f_cE) = true)
    (acP : PySem.W.findIn K (.ref CC) "place_of" = some (some (.ref f_cP)))
    (icP : PySem.W.isFn K (.ref f_cP) = true)
    (lcP : K.lookup f_cP = some ⟨oc_cP, od_cP, .func (PySem.W.fnOf "place_of" "Company.place_of" (defArgs s_Company_place_of) (defBody s_Company_place_of) (defScope s_Company_place_of) .none kv_cP dc_cP pm_cP an_cP cd_cP ct_cP), sl_cP⟩)
    (ccP : PySem.W.codeIn K cd_cP "Company.place_of" = true)
    (kcP : PySem.W.keepIn K (.ref f_cP) = true)
    (acR : PySem.W.findIn K (.ref CC) "row_of" = some (some (.ref f_cR)))
    (icR : PySem.W.isFn K (.ref f_cR) = true)
    (lcR : K.lookup f_cR = some ⟨oc_cR, od_cR, .func (PySem.W.fnOf "row_of" "Company.row_of" (defArgs s_Company_row_of) (defBody s_Company_row_of) (defScope s_Company_row_of) .none kv_cR dc_cR pm_cR an_cR cd_cR ct_cR), sl_cR⟩)
    (ccR : PySem.W.codeIn K cd_cR "Company.row_of" = true)
    (kcR : PySem.W.keepIn K (.ref f_cR) = true)
    (z_sorted : PySem.W.nsIn K mainGlobals "sorted" = some none)
    (apf : PySem.W.findIn K (.ref CC) "_place_for" = some (some (.ref f_pf)))
    (ipf : PySem.W.isFn K (.ref f_pf) = true)
    (lpf : K.lookup f_pf = some ⟨oc_pf, od_pf, .func (PySem.W.fnOf "_place_for" "Company._place_for" (defArgs s_Company__place_for) (defBody s_Company__place_for) (defScope s_Company__place_for) .none kv_pf dc_pf pm_pf an_pf cd_pf ct_pf), sl_pf⟩)
    (cpf : PySem.W.codeIn K cd_pf "Company._place_for" = true)
    (kpf : PySem.W.keepIn K (.ref f_pf) = true)
    (awr : PySem.W.findIn K (.ref CC) "with_row" = some (some (.ref f_wr)))
    (iwr : PySem.W.isFn K (.ref f_wr) = true)
    (lwr : K.lookup f_wr = some ⟨oc_wr, od_wr, .func (PySem.W.fnOf "with_row" "Company.with_row" (defArgs s_Company_with_row) (defBody s_Company_with_row) (defScope s_Company_with_row) .none kv_wr dc_wr pm_wr an_wr cd_wr ct_wr), sl_wr⟩)
    (cwr : PySem.W.codeIn K cd_wr "Company.with_row" = true)
    (kwr : PySem.W.keepIn K (.ref f_wr) = true)
    (ase : PySem.W.findIn K (.ref CC) "_seated" = some (some (.ref f_se)))
    (ise : PySem.W.isFn K (.ref f_se) = true)
    (lse : K.lookup f_se = some ⟨oc_se, od_se, .func (PySem.W.fnOf "_seated" "Company._seated" (defArgs s_Company__seated) (defBody s_Company__seated) (defScope s_Company__seated) .none kv_se dc_se pm_se an_se cd_se ct_se), sl_se⟩)
    (cse : PySem.W.codeIn K cd_se "Company._seated" = true)
    (kse : PySem.W.keepIn K (.ref f_se) = true)
    (apo : PySem.W.findIn K (.ref CC) "part_of" = some (some (.ref f_po)))
    (ipo : PySem.W.isFn K (.ref f_po) = true)
    (lpo : K.lookup f_po = some ⟨oc_po, od_po, .func (PySem.W.fnOf "part_of" "Company.part_of" (defArgs s_Company_part_of) (defBody s_Company_part_of) (defScope s_Company_part_of) .none kv_po dc_po pm_po an_po cd_po ct_po), sl_po⟩)
    (cpo : PySem.W.codeIn K cd_po "Company.part_of" = true)
    (kpo : PySem.W.keepIn K (.ref f_po) = true)
    (awo : PySem.W.findIn K (.ref CC) "without" = some (some (.ref f_wo)))
    (iwo : PySem.W.isFn K (.ref f_wo) = true)
    (lwo : K.lookup f_wo = some ⟨oc_wo, od_wo, .func (PySem.W.fnOf "without" "Company.without" (defArgs s_Company_without) (defBody s_Company_without) (defScope s_Company_without) .none kv_wo dc_wo pm_wo an_wo cd_wo ct_wo), sl_wo⟩)
    (cwo : PySem.W.codeIn K cd_wo "Company.without" = true)
    (kwo : PySem.W.keepIn K (.ref f_wo) = true)
    (aX : PySem.W.nsIn K mainGlobals "_law_mix" = some (some (.ref f_X)))
    (lX : K.lookup f_X = some ⟨oc_X, od_X, .func (PySem.W.fnOf "_law_mix" "_law_mix" (defArgs s_Lmix) (defBody s_Lmix) (defScope s_Lmix) .none kv_X dc_X pm_X an_X cd_X ct_X), sl_X⟩)
    (cX : PySem.W.codeIn K cd_X "_law_mix" = true)
    (kX : PySem.W.keepIn K (.ref f_X) = true)
    (aH : PySem.W.nsIn K mainGlobals "_law_hand" = some (some (.ref f_H)))
    (lH : K.lookup f_H = some ⟨oc_H, od_H, .func (PySem.W.fnOf "_law_hand" "_law_hand" (defArgs s_Lhand) (defBody s_Lhand) (defScope s_Lhand) .none kv_H dc_H pm_H an_H cd_H ct_H), sl_H⟩)
    (cH : PySem.W.codeIn K cd_H "_law_hand" = true)
    (kH : PySem.W.keepIn K (.ref f_H) = true)
    (aD : PySem.W.nsIn K mainGlobals "_law_draw" = some (some (.ref f_D)))
    (lD : K.lookup f_D = some ⟨oc_D, od_D, .func (PySem.W.fnOf "_law_draw" "_law_draw" (defArgs s_Ldraw) (defBody s_Ldraw) (defScope s_Ldraw) .none kv_D dc_D pm_D an_D cd_D ct_D), sl_D⟩)
    (cD : PySem.W.codeIn K cd_D "_law_draw" = true)
    (kD : PySem.W.keepIn K (.ref f_D) = true)
    (aK : PySem.W.nsIn K mainGlobals "_law_backs" = some (some (.ref f_K)))
    (lK : K.lookup f_K = some ⟨oc_K, od_K, .func (PySem.W.fnOf "_law_backs" "_law_backs" (defArgs s_Lbacks) (defBody s_Lbacks) (defScope s_Lbacks) .none kv_K dc_K pm_K an_K cd_K ct_K), sl_K⟩)
    (cK : PySem.W.codeIn K cd_K "_law_backs" = true)
    (kK : PySem.W.keepIn K (.ref f_K) = true)
    (z_max : PySem.W.nsIn K mainGlobals "max" = some none)
    (aB : PySem.W.nsIn K mainGlobals "_law_labels" = some (some (.ref f_B)))
    (lB : K.lookup f_B = some ⟨oc_B, od_B, .func (PySem.W.fnOf "_law_labels" "_law_labels" (defArgs s_Llabels) (defBody s_Llabels) (defScope s_Llabels) .none kv_B dc_B pm_B an_B cd_B ct_B), sl_B⟩)
    (cB : PySem.W.codeIn K cd_B "_law_labels" = true)
    (kB : PySem.W.keepIn K (.ref f_B) = true)
    (aP : PySem.W.nsIn K mainGlobals "_law_pick" = some (some (.ref f_P)))
    (lP : K.lookup f_P = some ⟨oc_P, od_P, .func (PySem.W.fnOf "_law_pick" "_law_pick" (defArgs s_Lpick) (defBody s_Lpick) (defScope s_Lpick) .none kv_P dc_P pm_P an_P cd_P ct_P), sl_P⟩)
    (cP : PySem.W.codeIn K cd_P "_law_pick" = true)
    (kP : PySem.W.keepIn K (.ref f_P) = true)
    (neC : PySem.W.findIn K (.ref CC) "__ne__" = some (some (.builtin "object.__ne__")))
    (aPT : PySem.W.nsIn K mainGlobals "_law_part" = some (some (.ref f_PT)))
    (lPT : K.lookup f_PT = some ⟨oc_PT, od_PT, .func (PySem.W.fnOf "_law_part" "_law_part" (defArgs s_Lpart) (defBody s_Lpart) (defScope s_Lpart) .none kv_PT dc_PT pm_PT an_PT cd_PT ct_PT), sl_PT⟩)
    (cPT : PySem.W.codeIn K cd_PT "_law_part" = true)
    (kPT : PySem.W.keepIn K (.ref f_PT) = true)
    (aRW : PySem.W.nsIn K mainGlobals "_law_rows" = some (some (.ref f_RW)))
    (lRW : K.lookup f_RW = some ⟨oc_RW, od_RW, .func (PySem.W.fnOf "_law_rows" "_law_rows" (defArgs s_Lrows) (defBody s_Lrows) (defScope s_Lrows) .none kv_RW dc_RW pm_RW an_RW cd_RW ct_RW), sl_RW⟩)
    (cRW : PySem.W.codeIn K cd_RW "_law_rows" = true)
    (kRW : PySem.W.keepIn K (.ref f_RW) = true)
    (aKO : PySem.W.nsIn K mainGlobals "_law_company" = some (some (.ref f_KO)))
    (lKO : K.lookup f_KO = some ⟨oc_KO, od_KO, .func (PySem.W.fnOf "_law_company" "_law_company" (defArgs s_Lcompany) (defBody s_Lcompany) (defScope s_Lcompany) .none kv_KO dc_KO pm_KO an_KO cd_KO ct_KO), sl_KO⟩)
    (cKO : PySem.W.codeIn K cd_KO "_law_company" = true)
    (kKO : PySem.W.keepIn K (.ref f_KO) = true)
    (aTB : PySem.W.nsIn K mainGlobals "_law_table_of" = some (some (.ref f_TB)))
    (lTB : K.lookup f_TB = some ⟨oc_TB, od_TB, .func (PySem.W.fnOf "_law_table_of" "_law_table_of" (defArgs s_Ltable_of) (defBody s_Ltable_of) (defScope s_Ltable_of) .none kv_TB dc_TB pm_TB an_TB cd_TB ct_TB), sl_TB⟩)
    (cTB : PySem.W.codeIn K cd_TB "_law_table_of" = true)
    (kTB : PySem.W.keepIn K (.ref f_TB) = true)
    (aIS : PySem.W.nsIn K mainGlobals "_law_is" = some (some (.ref f_IS)))
    (lIS : K.lookup f_IS = some ⟨oc_IS, od_IS, .func (PySem.W.fnOf "_law_is" "_law_is" (defArgs s_Lis) (defBody s_Lis) (defScope s_Lis) .none kv_IS dc_IS pm_IS an_IS cd_IS ct_IS), sl_IS⟩)
    (cIS : PySem.W.codeIn K cd_IS "_law_is" = true)
    (kIS : PySem.W.keepIn K (.ref f_IS) = true)
    (aRF : PySem.W.nsIn K mainGlobals "_law_refused" = some (some (.ref f_RF)))
    (lRF : K.lookup f_RF = some ⟨oc_RF, od_RF, .func (PySem.W.fnOf "_law_refused" "_law_refused" (defArgs s_Lrefused) (defBody s_Lrefused) (defScope s_Lrefused) .none kv_RF dc_RF pm_RF an_RF cd_RF ct_RF), sl_RF⟩)
    (cRF : PySem.W.codeIn K cd_RF "_law_refused" = true)
    (kRF : PySem.W.keepIn K (.ref f_RF) = true)
    (aNC : PySem.W.nsIn K mainGlobals "_law_newcomer" = some (some (.ref f_NC)))
    (lNC : K.lookup f_NC = some ⟨oc_NC, od_NC, .func (PySem.W.fnOf "_law_newcomer" "_law_newcomer" (defArgs s_Lnewcomer) (defBody s_Lnewcomer) (defScope s_Lnewcomer) .none kv_NC dc_NC pm_NC an_NC cd_NC ct_NC), sl_NC⟩)
    (cNC : PySem.W.codeIn K cd_NC "_law_newcomer" = true)
    (kNC : PySem.W.keepIn K (.ref f_NC) = true)
    (aV : PySem.W.nsIn K mainGlobals "law" = some (some (.ref f_V)))
    (lV : K.lookup f_V = some ⟨oc_V, od_V, .func (PySem.W.fnOf "law" "law" (defArgs s_law) (defBody s_law) (defScope s_law) .none kv_V dc_V pm_V an_V cd_V ct_V), sl_V⟩)
    (cV : PySem.W.codeIn K cd_V "law" = true)
    (kV : PySem.W.keepIn K (.ref f_V) = true)
    : ∃ fd : FuncData, (∀ (s : Shared) (v : Value), BindsTo s fd ⟨[v], []⟩ [("_law_script", v)]) ∧ ∀ base : Heap, K.In base → base.Ns mainGlobals mg → FnOk l.prog w K mg base CX0 10 fa fd ["_law_script"] (spLaw K) := by
  have e := hfa.symm.trans (PySem.W.mg_of X G aV)
  cases e
  have n_len := PySem.W.mg_none_of X G z_len
  have n_isinstance := PySem.W.mg_none_of X G z_isinstance
  have n_int := PySem.W.mg_none_of X G z_int
  have n_bool := PySem.W.mg_none_of X G z_bool
  have n_list := PySem.W.mg_none_of X G z_list
  have n_tuple := PySem.W.mg_none_of X G z_tuple
  have n_range := PySem.W.mg_none_of X G z_range
  have n_abs := PySem.W.mg_none_of X G z_abs
  have n_enumerate := PySem.W.mg_none_of X G z_enumerate
  have mM := PySem.W.mg_of X G gM
  have mL := PySem.W.mg_of X G gL
  have mG := PySem.W.mg_of X G gG
  have FxCB := fun_mk (st := s_BadTies_init) lxCB cxCB kxCB
  have bxCB := FxCB.binds (ps := ["self", "what"]) fun _ _ _ _ _ _ us hl => match us, hl with | [_, _], _ => rfl
  have oCB : OexC K CB := ⟨⟨_, _, _, _, _, _, _, _, _, _, _, _, _, _, _, xCB, by first | rfl | decide +kernel⟩, saCB, exCB, tyCB, kcCB⟩
  have xfCB : XfC K CB := ⟨gaCB, ggCB, exCB, hdCB⟩
  have FxCI := fun_mk (st := s_NoTie_init) lxCI cxCI kxCI
  have bxCI := FxCI.binds (ps := ["self", "tie"]) fun _ _ _ _ _ _ us hl => match us, hl with | [_, _], _ => rfl
  have oCI : OexC K CI := ⟨⟨_, _, _, _, _, _, _, _, _, _, _, _, _, _, _, xCI, by first | rfl | decide +kernel⟩, saCI, exCI, tyCI, kcCI⟩
  have xfCI : XfC K CI := ⟨gaCI, ggCI, exCI, hdCI⟩
  have FxCE := fun_mk (st := s_BadCompany_init) lxCE cxCE kxCE
  have bxCE := FxCE.binds (ps := ["self", "index", "what"]) fun _ _ _ _ _ _ us hl => match us, hl with | [_, _, _], _ => rfl
  have oCE : OexC K CE := ⟨⟨_, _, _, _, _, _, _, _, _, _, _, _, _, _, _, xCE, by first | rfl | decide +kernel⟩, saCE, exCE, tyCE, kcCE⟩
  have xfCE : XfC K CE := ⟨gaCE, ggCE, exCE, hdCE⟩
  have FxCN := fun_mk (st := s_NoGuest_init) lxCN cxCN kxCN
  have bxCN := FxCN.binds (ps := ["self", "label"]) fun _ _ _ _ _ _ us hl => match us, hl with | [_, _], _ => rfl
  have oCN : OexC K CN := ⟨⟨_, _, _, _, _, _, _, _, _, _, _, _, _, _, _, xCN, by first | rfl | decide +kernel⟩, saCN, exCN, tyCN, kcCN⟩
  have xfCN : XfC K CN := ⟨gaCN, ggCN, exCN, hdCN⟩
  have clCT : Cls K CT := ⟨pgCT, hdCT, poCT, saCT⟩
  have iscCT : C8.InsC K CT := ⟨clCT, haCT, hn0, htk0, hmCT, kit_me⟩
  have TC : TiC K CT := ⟨clCT, n0CT, n1CT⟩
  have TX : TiX K mg CT := { toTiC := TC, isc := iscCT, nt := kit_no icCT tyCT suCT, nf := nfCT, mT := PySem.W.mg_of X G aCT }
  have clCC : Cls K CC := ⟨pgCC, hdCC, poCC, saCC⟩
  have iscCC : C8.InsC K CC := ⟨clCC, haCC, hn0, htk0, hmCC, kit_me⟩
  have COC : CoC K CC := ⟨clCC, n0CC, n1CC, n2CC, n3CC, n4CC⟩
  have COX : CoX K mg CC := { toCoC := COC, isc := iscCC, mC := PySem.W.mg_of X G aCC }
  have n_all := PySem.W.mg_none_of X G z_all
  have FW := fun_mk (st := s_is_whole) lW cW kW
  have bW := FW.binds (ps := ["thing", "low", "high"]) fun _ _ _ _ _ _ us hl => match us, hl with | [_, _, _], _ => rfl
  have FLB := fun_mk (st := s_is_label) lLB cLB kLB
  have bLB := FLB.binds (ps := ["thing"]) fun _ _ _ _ _ _ us hl => match us, hl with | [_], _ => rfl
  have FQ := fun_mk (st := s_is_sequence) lQ cQ kQ
  have bQ := FQ.binds (ps := ["thing"]) fun _ _ _ _ _ _ us hl => match us, hl with | [_], _ => rfl
  have FCK := fun_mk (st := s_ties_fault) lCK cCK kCK
  have bCK := FCK.binds (ps := ["backs"]) fun _ _ _ _ _ _ us hl => match us, hl with | [_], _ => rfl
  have FtI := fun_mk (st := s_Ties_init) ltI ctI ktI
  have btI := FtI.binds (ps := ["self", "backs"]) fun _ _ _ _ _ _ us hl => match us, hl with | [_, _], _ => rfl
  have FtH := fun_mk (st := s_Ties_has) ltH ctH ktH
  have btH := FtH.binds (ps := ["self", "thing"]) fun _ _ _ _ _ _ us hl => match us, hl with | [_, _], _ => rfl
  have FtE := fun_mk (st := s_Ties_eq) ltE ctE ktE
  have btE := FtE.binds (ps := ["self", "other"]) fun _ _ _ _ _ _ us hl => match us, hl with | [_, _], _ => rfl
  have FtB := fun_mk (st := s_Ties_back) ltB ctB ktB
  have btB := FtB.binds (ps := ["self", "tie"]) fun _ _ _ _ _ _ us hl => match us, hl with | [_, _], _ => rfl
  have FCR := fun_mk (st := s_check_row) lCR cCR kCR
  have bCR := FCR.binds (ps := ["ties", "index", "row", "length"]) fun _ _ _ _ _ _ us hl => match us, hl with | [_, _, _, _], _ => rfl
  have FCC2 := fun_mk (st := s_check_company) lCC2 cCC2 kCC2
  have bCC2 := FCC2.binds (ps := ["ties", "guests", "rows"]) fun _ _ _ _ _ _ us hl => match us, hl with | [_, _, _], _ => rfl
  have FTO := fun_mk (st := s_table_of) lTO cTO kTO
  have bTO := FTO.binds (ps := ["ties", "rows"]) fun _ _ _ _ _ _ us hl => match us, hl with | [_, _], _ => rfl
  have FcI := fund_mk (st := s_Company_init) lcI lTcI ccI kcI
  have bcI := fund_binds (ps := ["self", "ties", "guests", "rows"]) FcI
    fun _ _ _ _ _ _ _ us its hl hi => match us, its, hl, hi with | [_, _, _, _], [_, _], _, _ => ⟨_, rfl, rfl⟩
  have FcL := fun_mk (st := s_Company_len) lcL ccL kcL
  have bcL := FcL.binds (ps := ["self"]) fun _ _ _ _ _ _ us hl => match us, hl with | [_], _ => rfl
  have FcC := fun_mk (st := s_Company_contains) lcC ccC kcC
  have bcC := FcC.binds (ps := ["self", "label"]) fun _ _ _ _ _ _ us hl => match us, hl with | [_, _], _ => rfl
  have FcE := fun_mk (st := s_Company_eq) lcE ccE kcE
  have bcE := FcE.binds (ps := ["self", "other"]) fun _ _ _ _ _ _ us hl => match us, hl with | [_, _], _ => rfl
  have FcP := fun_mk (st := s_Company_place_of) lcP ccP kcP
  have bcP := FcP.binds (ps := ["self", "label"]) fun _ _ _ _ _ _ us hl => match us, hl with | [_, _], _ => rfl
  have FcR := fun_mk (st := s_Company_row_of) lcR ccR kcR
  have bcR := FcR.binds (ps := ["self", "label"]) fun _ _ _ _ _ _ us hl => match us, hl with | [_, _], _ => rfl
  have n_sorted := PySem.W.mg_none_of X G z_sorted
  have Fpf := fun_mk (st := s_Company__place_for) lpf cpf kpf
  have bpf := Fpf.binds (ps := ["self", "label"]) fun _ _ _ _ _ _ us hl => match us, hl with | [_, _], _ => rfl
  have Fwr := fun_mk (st := s_Company_with_row) lwr cwr kwr
  have bwr := Fwr.binds (ps := ["self", "label", "row"]) fun _ _ _ _ _ _ us hl => match us, hl with | [_, _, _], _ => rfl
  have Fse := fun_mk (st := s_Company__seated) lse cse kse
  have bse := Fse.binds (ps := ["self", "labels", "places"]) fun _ _ _ _ _ _ us hl => match us, hl with | [_, _, _], _ => rfl
  have Fpo := fun_mk (st := s_Company_part_of) lpo cpo kpo
  have bpo := Fpo.binds (ps := ["self", "labels"]) fun _ _ _ _ _ _ us hl => match us, hl with | [_, _], _ => rfl
  have Fwo := fun_mk (st := s_Company_without) lwo cwo kwo
  have bwo := Fwo.binds (ps := ["self", "label"]) fun _ _ _ _ _ _ us hl => match us, hl with | [_, _], _ => rfl
  have FX := fun_mk (st := s_Lmix) lX cX kX
  have bX := FX.binds (ps := ["_law_number", "_law_turn"]) fun _ _ _ _ _ _ us hl => match us, hl with | [_, _], _ => rfl
  have FH := fun_mk (st := s_Lhand) lH cH kH
  have bH := FH.binds (ps := ["_law_script"]) fun _ _ _ _ _ _ us hl => match us, hl with | [_], _ => rfl
  have FD := fun_mk (st := s_Ldraw) lD cD kD
  have bD := FD.binds (ps := ["_law_hand_here", "_law_many"]) fun _ _ _ _ _ _ us hl => match us, hl with | [_, _], _ => rfl
  have FK := fun_mk (st := s_Lbacks) lK cK kK
  have bK := FK.binds (ps := ["_law_hand_here", "_law_many"]) fun _ _ _ _ _ _ us hl => match us, hl with | [_, _], _ => rfl
  have n_max := PySem.W.mg_none_of X G z_max
  have FB := fun_mk (st := s_Llabels) lB cB kB
  have bB := FB.binds (ps := ["_law_hand_here", "_law_many"]) fun _ _ _ _ _ _ us hl => match us, hl with | [_, _], _ => rfl
  have FP := fun_mk (st := s_Lpick) lP cP kP
  have bP := FP.binds (ps := ["_law_hand_here", "_law_things"]) fun _ _ _ _ _ _ us hl => match us, hl with | [_, _], _ => rfl
  have FPT := fun_mk (st := s_Lpart) lPT cPT kPT
  have bPT := FPT.binds (ps := ["_law_table", "_law_places"]) fun _ _ _ _ _ _ us hl => match us, hl with | [_, _], _ => rfl
  have FRW := fun_mk (st := s_Lrows) lRW cRW kRW
  have bRW := FRW.binds (ps := ["_law_table"]) fun _ _ _ _ _ _ us hl => match us, hl with | [_], _ => rfl
  have FKO := fun_mk (st := s_Lcompany) lKO cKO kKO
  have bKO := FKO.binds (ps := ["_law_backs_here", "_law_labels_here", "_law_table"]) fun _ _ _ _ _ _ us hl => match us, hl with | [_, _, _], _ => rfl
  have FTB := fun_mk (st := s_Ltable_of) lTB cTB kTB
  have bTB := FTB.binds (ps := ["_law_backs_here", "_law_rows_here"]) fun _ _ _ _ _ _ us hl => match us, hl with | [_, _], _ => rfl
  have FIS := fun_mk (st := s_Lis) lIS cIS kIS
  have bIS := FIS.binds (ps := ["_law_company_here", "_law_backs_here", "_law_labels_here", "_law_table"]) fun _ _ _ _ _ _ us hl => match us, hl with | [_, _, _, _], _ => rfl
  have FRF := fun_mk (st := s_Lrefused) lRF cRF kRF
  have bRF := FRF.binds (ps := ["_law_company_here", "_law_way", "_law_thing", "_law_labels_here"]) fun _ _ _ _ _ _ us hl => match us, hl with | [_, _, _, _], _ => rfl
  have FNC := fun_mk (st := s_Lnewcomer) lNC cNC kNC
  have bNC := FNC.binds (ps := ["_law_hand_here", "_law_company_here", "_law_backs_here", "_law_labels_here", "_law_table"]) fun _ _ _ _ _ _ us hl => match us, hl with | [_, _, _, _, _], _ => rfl
  have FV := fun_mk (st := s_law) lV cV kV
  have bV := FV.binds (ps := ["_law_script"]) fun _ _ _ _ _ _ us hl => match us, hl with | [_], _ => rfl
  refine ⟨PySem.W.fnOf "law" "law" (defArgs s_law) (defBody s_law) (defScope s_law) .none kv_V dc_V pm_V an_V cd_V ct_V, fun s v => .of_eq rfl, fun base KB GB => ?_⟩
  have ECB : Ex l.prog w K mg base "BadTies" "what" CB f_xCB _ ["self", "what"] := ⟨oCB, axCB, ixCB, ok_BadTies_init FxCB oCB no0CB, bxCB, PySem.W.mg_of X G aCB, xfCB, no0CB, exm_own exCB icCB tyCB scCB⟩
  have ECI : Ex l.prog w K mg base "NoTie" "tie" CI f_xCI _ ["self", "tie"] := ⟨oCI, axCI, ixCI, ok_NoTie_init FxCI oCI no0CI, bxCI, PySem.W.mg_of X G aCI, xfCI, no0CI, exm_own exCI icCI tyCI scCI⟩
  have ECE : Ex2 l.prog w K mg base "BadCompany" "index" "what" CE f_xCE _ ["self", "index", "what"] := ⟨oCE, axCE, ixCE, ok_BadCompany_init FxCE oCE no0CE no1CE, bxCE, PySem.W.mg_of X G aCE, xfCE, no0CE, no1CE, exm_own exCE icCE tyCE scCE⟩
  have ECN : Ex l.prog w K mg base "NoGuest" "label" CN f_xCN _ ["self", "label"] := ⟨oCN, axCN, ixCN, ok_NoGuest_init FxCN oCN no0CN, bxCN, PySem.W.mg_of X G aCN, xfCN, no0CN, exm_own exCN icCN tyCN scCN⟩
  have GW : Cal l.prog w K mg base CX0 1 "is_whole" f_W _ ["thing", "low", "high"] spWhole := ⟨ok_is_whole FW n_isinstance n_int n_bool, PySem.W.mg_of X G aW, kW, bW⟩
  have GLB : Cal l.prog w K mg base CX0 2 "is_label" f_LB _ ["thing"] spLabel := ⟨ok_is_label FLB GW ⟨_, mL⟩, PySem.W.mg_of X G aLB, kLB, bLB⟩
  have GQ : Cal l.prog w K mg base CX0 1 "is_sequence" f_Q _ ["thing"] spSeq := ⟨ok_is_sequence FQ n_isinstance n_list n_tuple, PySem.W.mg_of X G aQ, kQ, bQ⟩
  have GCK : Cal l.prog w K mg base CX0 2 "ties_fault" f_CK _ ["backs"] spFault := ⟨ok_ties_fault FCK n_len n_range n_all ⟨_, mM⟩ GQ GW, PySem.W.mg_of X G aCK, kCK, bCK⟩
  have MIT : Mk K CT f_tI := ⟨mkCT, atI, itI, kcCT⟩
  have FIT := ok_Ties_init (P := l.prog) (w := w) (base := base) FtI TC n_len n_tuple GCK ECB
  have MtH : Mt l.prog w K mg base CX0 2 CT "has" f_tH _ ["self", "thing"] (spHas CT) := ⟨⟨atH, itH, ktH⟩, ok_Ties_has FtH TC GW, btH⟩
  have FET := ok_Ties_eq (P := l.prog) (w := w) (base := base) FtE TX n_isinstance
  have MtB : Mt l.prog w K mg base (L2.CX l.prog w) 3 CT "back" f_tB _ ["self", "tie"] (spBack CT CI) := ⟨⟨atB, itB, ktB⟩, ok_Ties_back FtB TC MtH ECI, btB⟩
  have GCR : Cal l.prog w K mg base (L2.CX l.prog w) 3 "_check_row" f_CR _ ["ties", "index", "row", "length"] (spRow CT CE) := ⟨ok_check_row FCR TC n_len GQ MtH ECE, PySem.W.mg_of X G aCR, kCR, bCR⟩
  have GCC2 : Cal l.prog w K mg base (L2.CX l.prog w) 4 "_check_company" f_CC2 _ ["ties", "guests", "rows"] (spCC CT CE) := ⟨ok_check_company FCC2 n_len n_enumerate ⟨_, mG⟩ GQ GLB GCR ECE, PySem.W.mg_of X G aCC2, kCC2, bCC2⟩
  have GTO : Cal l.prog w K mg base CX0 1 "_table_of" f_TO _ ["ties", "rows"] (spTable CT) := ⟨ok_table_of FTO TC n_len n_tuple n_enumerate, PySem.W.mg_of X G aTO, kTO, bTO⟩
  have MIC : Mk K CC f_cI := ⟨mkCC, acI, icI, kcCC⟩
  have FIC := ok_Company_init (P := l.prog) (w := w) (base := base) FcI COC n_tuple n_enumerate GCC2 GTO
  have FLC := ok_Company_len (P := l.prog) (w := w) (base := base) (C := CT) FcL COC n_len
  have FCC := ok_Company_contains (P := l.prog) (w := w) (base := base) (C := CT) FcC COC GLB
  have FEC := ok_Company_eq (P := l.prog) (w := w) (base := base) FcE TX COX n_isinstance FET atE itE btE
  have McP : Mt l.prog w K mg base (L2.CX l.prog w) 4 CC "place_of" f_cP _ ["self", "label"] (spCPlace CT CC CN) := ⟨⟨acP, icP, kcP⟩, ok_Company_place_of FcP COC FCC acC icC bcC ECN, bcP⟩
  have McR : Mt l.prog w K mg base (L2.CX l.prog w) 5 CC "row_of" f_cR _ ["self", "label"] (spCRow CT CC CN) := ⟨⟨acR, icR, kcR⟩, ok_Company_row_of FcR COC McP, bcR⟩
  have Mpf : Mt l.prog w K mg base (L2.CX l.prog w) 5 CC "_place_for" f_pf _ ["self", "label"] (spPF CT CC CE) := ⟨⟨apf, ipf, kpf⟩, ok_Company_place_for Fpf COC n_len ⟨_, mG⟩ GLB FCC acC icC bcC McP ECE, bpf⟩
  have Mwr : Mt l.prog w K mg base (L2.CX l.prog w) 7 CC "with_row" f_wr _ ["self", "label", "row"] (spWR CT CC CE) := ⟨⟨awr, iwr, kwr⟩, ok_Company_with_row (CN := CN) Fwr TC COC n_len n_range n_list Mpf GCR MtB (PySem.W.mg_of X G aCC) MIC FIC bcI, bwr⟩
  have Mse : Mt l.prog w K mg base CX0 7 CC "_seated" f_se _ ["self", "labels", "places"] (spSeated CT CC) := ⟨⟨ase, ise, kse⟩, ok_Company_seated Fse COC n_enumerate (PySem.W.mg_of X G aCC) MIC FIC bcI, bse⟩
  have Mpo : Mt l.prog w K mg base (L2.CX l.prog w) 8 CC "part_of" f_po _ ["self", "labels"] (spPart CT CC CN) := ⟨⟨apo, ipo, kpo⟩, ok_Company_part_of Fpo COC n_sorted McP Mse, bpo⟩
  have Mwo : Mt l.prog w K mg base (L2.CX l.prog w) 8 CC "without" f_wo _ ["self", "label"] (spWo CT CC CN) := ⟨⟨awo, iwo, kwo⟩, ok_Company_without Fwo COC n_len n_range McP Mse, bwo⟩
  have GX : Cal l.prog w K mg base CX0 1 "_law_mix" f_X _ ["_law_number", "_law_turn"] spMix := ⟨ok_Lmix FX n_int, PySem.W.mg_of X G aX, kX, bX⟩
  have GH : Cal l.prog w K mg base CX0 1 "_law_hand" f_H _ ["_law_script"] (spHand K) := ⟨ok_Lhand FH n_int n_abs n_enumerate, PySem.W.mg_of X G aH, kH, bH⟩
  have GD : Cal l.prog w K mg base CX0 2 "_law_draw" f_D _ ["_law_hand_here", "_law_many"] spDraw := ⟨ok_Ldraw FD n_int n_len GX, PySem.W.mg_of X G aD, kD, bD⟩
  have GK : Cal l.prog w K mg base CX0 3 "_law_backs" f_K _ ["_law_hand_here", "_law_many"] spBacks := ⟨ok_Lbacks FK n_list n_len n_range GD, PySem.W.mg_of X G aK, kK, bK⟩
  have GB : Cal l.prog w K mg base CX0 3 "_law_labels" f_B _ ["_law_hand_here", "_law_many"] spLabels := ⟨ok_Llabels FB n_range n_max GD, PySem.W.mg_of X G aB, kB, bB⟩
  have GP : Cal l.prog w K mg base CX0 3 "_law_pick" f_P _ ["_law_hand_here", "_law_things"] spPick := ⟨ok_Lpick FP n_len GD, PySem.W.mg_of X G aP, kP, bP⟩
  have GPT : Cal l.prog w K mg base CX0 1 "_law_part" f_PT _ ["_law_table", "_law_places"] spLPart := ⟨ok_Lpart FPT, PySem.W.mg_of X G aPT, kPT, bPT⟩
  have GRW : Cal l.prog w K mg base CX0 1 "_law_rows" f_RW _ ["_law_table"] spLRows := ⟨ok_Lrows FRW n_len n_range n_list, PySem.W.mg_of X G aRW, kRW, bRW⟩
  have GKO : Cal l.prog w K mg base CX0 7 "_law_company" f_KO _ ["_law_backs_here", "_law_labels_here", "_law_table"] (spLComp CT CC) := ⟨ok_Lcompany FKO GRW (PySem.W.mg_of X G aCT) (PySem.W.mg_of X G aCC) MIT FIT btI MIC FIC bcI, PySem.W.mg_of X G aKO, kKO, bKO⟩
  have GTB : Cal l.prog w K mg base CX0 1 "_law_table_of" f_TB _ ["_law_backs_here", "_law_rows_here"] spLTab := ⟨ok_Ltable_of FTB n_len n_range, PySem.W.mg_of X G aTB, kTB, bTB⟩
  have GIS : Cal l.prog w K mg base CX0 6 "_law_is" f_IS _ ["_law_company_here", "_law_backs_here", "_law_labels_here", "_law_table"] (spLIs CT CC) := ⟨ok_Lis FIS TC COX n_isinstance n_len n_range n_list GRW McR, PySem.W.mg_of X G aIS, kIS, bIS⟩
  have GRF : Cal l.prog w K mg base CX0 9 "_law_refused" f_RF _ ["_law_company_here", "_law_way", "_law_thing", "_law_labels_here"] (spLRef CT CC) := ⟨ok_Lrefused FRF COC n_isinstance n_bool Mpo Mwo ECN, PySem.W.mg_of X G aRF, kRF, bRF⟩
  have GNC : Cal l.prog w K mg base CX0 9 "_law_newcomer" f_NC _ ["_law_hand_here", "_law_company_here", "_law_backs_here", "_law_labels_here", "_law_table"] (spNew CT CC) := ⟨ok_Lnewcomer FNC COC n_len n_range n_list n_tuple GD GP GIS GPT Mwr McR Mwo Mpo FCC acC icC bcC FEC acE neC hmCC icE bcE, PySem.W.mg_of X G aNC, kNC, bNC⟩
  exact ok_law FV COC n_len n_range n_tuple GH GD GK GB GTB GKO GIS GPT GNC GP GRF Mpo Mwo
theorem walk {l : PySem.W.OpenLaw} {q : Program} {loose : List Str} {XP : (Str → Option Value) → Heap → Prop} {YP : World → Heap → Prop} {d : DefRec} {K : Params → PySem.W.Frag} (hn : l.most = some 63) (hdf : d.params.defaults = [])
    (hY : ∀ (w : World) (h : Heap), YP w h → (K w.params).In h)
    (F : ∀ (w : World) (mg : Str → Option Value) (fa : Addr) (h : Heap), (K w.params).In h → h.Ns mainGlobals mg → mg d.name = some (.ref fa) →
      ∃ fd : FuncData, (∀ (s : Shared) (u : Value), BindsTo s fd ⟨[u], []⟩ [("_law_script", u)]) ∧ ∀ base : Heap, (K w.params).In base → base.Ns mainGlobals mg → FnOk l.prog w (K w.params) mg base CX0 10 fa fd ["_law_script"] (spLaw (K w.params))) :
    PySem.W.WalkO q loose XP YP l.row.toRowW d [] (fun f vs => PySem.call f vs) :=
  L2.walk_of (n := 63) (k := 10) (x := "_law_script") (CX := fun _ => CX0) (sp := fun w => spLaw (K w.params)) hn (by decide) hdf ⟨rfl, by decide, by decide⟩ hY F (fun _ _ a ns hl _ hS => ⟨a, ns, rfl, hS, hl, fun _ => rfl⟩) fun _ _ _ _ _ z => z
end J

set_option Elab.async false
open PySem PySem.W PyProof.Rows in
set_option maxRecDepth 100000 in
set_option maxHeartbeats 0 in
theorem PySem.Challenge.cw_joinedguests_k04_whole_parts_and_newcome_holds : PySem.Challenge.rw_joinedguests_k04_whole_parts_and_newcome.Holds := by
  w_on; o_law; k_head; (case hw => w_witness2)
  k_fill
  refine J.walk (l := PySem.Challenge.rw_joinedguests_k04_whole_parts_and_newcome) rfl rfl (fun w h Y => PySem.W.kIn_of Y) ?F
  case F =>
    intro w mg fa h KX G hmg
    refine' J.all_mk KX G hmg ?z_len ?z_isinstance ?z_int ?z_bool ?z_list ?z_tuple ?z_range ?z_abs ?z_enumerate ?gM ?gL ?gG ?aCB ?axCB ?ixCB ?lxCB ?cxCB ?kxCB ?xCB ?saCB ?gaCB ?ggCB ?no0CB ?kcCB ?exCB ?tyCB ?hdCB ?icCB ?scCB ?aCI ?axCI ?ixCI ?lxCI ?cxCI ?kxCI ?xCI ?saCI ?gaCI ?ggCI ?no0CI ?kcCI ?exCI ?tyCI ?hdCI ?icCI ?scCI ?aCE ?axCE ?ixCE ?lxCE ?cxCE ?kxCE ?xCE ?saCE ?gaCE ?ggCE ?no0CE ?no1CE ?kcCE ?exCE ?tyCE ?hdCE ?icCE ?scCE ?aCN ?axCN ?ixCN ?lxCN ?cxCN ?kxCN ?xCN ?saCN ?gaCN ?ggCN ?no0CN ?kcCN ?exCN ?tyCN ?hdCN ?icCN ?scCN ?aCT ?pgCT ?hdCT ?poCT ?saCT ?mkCT ?kcCT ?n0CT ?n1CT ?haCT ?hn0 ?htk0 ?hmCT ?icCT ?tyCT ?suCT ?nfCT ?aCC ?pgCC ?hdCC ?poCC ?saCC ?mkCC ?kcCC ?n0CC ?n1CC ?n2CC ?n3CC ?n4CC ?haCC ?hmCC ?icCC ?tyCC ?suCC ?nfCC ?z_all ?aW ?lW ?cW ?kW ?aLB ?lLB ?cLB ?kLB ?aQ ?lQ ?cQ ?kQ ?aCK ?lCK ?cCK ?kCK ?atI ?itI ?ltI ?ctI ?ktI ?atH ?itH ?ltH ?ctH ?ktH ?atE ?itE ?ltE ?ctE ?ktE ?atB ?itB ?ltB ?ctB ?ktB ?aCR ?lCR ?cCR ?kCR ?aCC2 ?lCC2 ?cCC2 ?kCC2 ?aTO ?lTO ?cTO ?kTO ?acI ?icI ?lcI ?lTcI ?ccI ?kcI ?acL ?icL ?lcL ?ccL ?kcL ?acC ?icC ?lcC ?ccC ?kcC ?acE ?icE ?lcE ?ccE ?kcE ?acP ?icP ?lcP ?ccP ?kcP ?acR ?icR ?lcR ?ccR ?kcR ?z_sorted ?apf ?ipf ?lpf ?cpf ?kpf ?awr ?iwr ?lwr ?cwr ?kwr ?ase ?ise ?lse ?cse ?kse ?apo ?ipo ?lpo ?cpo ?kpo ?awo ?iwo ?lwo ?cwo ?kwo ?aX ?lX ?cX ?kX ?aH ?lH ?cH ?kH ?aD ?lD ?cD ?kD ?aK ?lK ?cK ?kK ?z_max ?aB ?lB ?cB ?kB ?aP ?lP ?cP ?kP ?neC ?aPT ?lPT ?cPT ?kPT ?aRW ?lRW ?cRW ?kRW ?aKO ?lKO ?cKO ?kKO ?aTB ?lTB ?cTB ?kTB ?aIS ?lIS ?cIS ?kIS ?aRF ?lRF ?cRF ?kRF ?aNC ?lNC ?cNC ?kNC ?aV ?lV ?cV ?kV
    (case z_len => k_is)
    (case z_isinstance => k_is)
    (case z_int => k_is)
    (case z_bool => k_is)
    (case z_list => k_is)
    (case z_tuple => k_is)
    (case z_range => k_is)
    (case z_abs => k_is)
    (case z_enumerate => k_is)
    (case gM => k_is)
    (case gL => k_is)
    (case gG => k_is)
    (case aCB => k_is)
    (case axCB => k_is)
    (case ixCB => k_is)
    (case lxCB => k_is)
    (case cxCB => k_is)
    (case kxCB => k_is)
    (case xCB => k_is)
    (case saCB => k_is)
    (case gaCB => k_is)
    (case ggCB => k_is)
    (case no0CB => k_is)
    (case kcCB => k_is)
    (case exCB => k_is)
    (case tyCB => k_is)
    (case hdCB => k_is)
    (case icCB => k_is)
    (case scCB => first | rfl | k_is)
    (case aCI => k_is)
    (case axCI => k_is)
    (case ixCI => k_is)
    (case lxCI => k_is)
    (case cxCI => k_is)
    (case kxCI => k_is)
    (case xCI => k_is)
    (case saCI => k_is)
    (case gaCI => k_is)
    (case ggCI => k_is)
    (case no0CI => k_is)
    (case kcCI => k_is)
    (case exCI => k_is)
    (case tyCI => k_is)
    (case hdCI => k_is)
    (case icCI => k_is)
    (case scCI => first | rfl | k_is)
    (case aCE => k_is)
    (case axCE => k_is)
    (case ixCE => k_is)
    (case lxCE => k_is)
    (case cxCE => k_is)
    (case kxCE => k_is)
    (case xCE => k_is)
    (case saCE => k_is)
    (case gaCE => k_is)
    (case ggCE => k_is)
    (case no0CE => k_is)
    (case no1CE => k_is)
    (case kcCE => k_is)
    (case exCE => k_is)
    (case tyCE => k_is)
    (case hdCE => k_is)
    (case icCE => k_is)
    (case scCE => first | rfl | k_is)
    (case aCN => k_is)
    (case axCN => k_is)
    (case ixCN => k_is)
    (case lxCN => k_is)
    (case cxCN => k_is)
    (case kxCN => k_is)
    (case xCN => k_is)
    (case saCN => k_is)
    (case gaCN => k_is)
    (case ggCN => k_is)
    (case no0CN => k_is)
    (case kcCN => k_is)
    (case exCN => k_is)
    (case tyCN => k_is)
    (case hdCN => k_is)
    (case icCN => k_is)
    (case scCN => first | rfl | k_is)
    (case aCT => k_is)
    (case pgCT => k_is)
    (case hdCT => k_is)
    (case poCT => k_is)
    (case saCT => k_is)
    (case mkCT => k_is)
    (case kcCT => k_is)
    (case n0CT => k_is)
    (case n1CT => k_is)
    (case haCT => k_is)
    (case hn0 => k_is)
    (case htk0 => k_is)
    (case hmCT => k_is)
    (case icCT => k_is)
    (case tyCT => k_is)
    (case suCT => k_is)
    (case nfCT => k_is)
    (case aCC => k_is)
    (case pgCC => k_is)
    (case hdCC => k_is)
    (case poCC => k_is)
    (case saCC => k_is)
    (case mkCC => k_is)
    (case kcCC => k_is)
    (case n0CC => k_is)
    (case n1CC => k_is)
    (case n2CC => k_is)
    (case n3CC => k_is)
    (case n4CC => k_is)
    (case haCC => k_is)
    (case hmCC => k_is)
    (case icCC => k_is)
    (case tyCC => k_is)
    (case suCC => k_is)
    (case nfCC => k_is)
    (case z_all => k_is)
    (case aW => k_is)
    (case lW => k_is)
    (case cW => k_is)
    (case kW => k_is)
    (case aLB => k_is)
    (case lLB => k_is)
    (case cLB => k_is)
    (case kLB => k_is)
    (case aQ => k_is)
    (case lQ => k_is)
    (case cQ => k_is)
    (case kQ => k_is)
    (case aCK => k_is)
    (case lCK => k_is)
    (case cCK => k_is)
    (case kCK => k_is)
    (case atI => k_is)
    (case itI => k_is)
    (case ltI => k_is)
    (case ctI => k_is)
    (case ktI => k_is)
    (case atH => k_is)
    (case itH => k_is)
    (case ltH => k_is)
    (case ctH => k_is)
    (case ktH => k_is)
    (case atE => k_is)
    (case itE => k_is)
    (case ltE => k_is)
    (case ctE => k_is)
    (case ktE => k_is)
    (case atB => k_is)
    (case itB => k_is)
    (case ltB => k_is)
    (case ctB => k_is)
    (case ktB => k_is)
    (case aCR => k_is)
    (case lCR => k_is)
    (case cCR => k_is)
    (case kCR => k_is)
    (case aCC2 => k_is)
    (case lCC2 => k_is)
    (case cCC2 => k_is)
    (case kCC2 => k_is)
    (case aTO => k_is)
    (case lTO => k_is)
    (case cTO => k_is)
    (case kTO => k_is)
    (case acI => k_is)
    (case icI => k_is)
    (case lcI => k_is)
    (case lTcI => k_is)
    (case ccI => k_is)
    (case kcI => k_is)
    (case acL => k_is)
    (case icL => k_is)
    (case lcL => k_is)
    (case ccL => k_is)
    (case kcL => k_is)
    (case acC => k_is)
    (case icC => k_is)
    (case lcC => k_is)
    (case ccC => k_is)
    (case kcC => k_is)
    (case acE => k_is)
    (case icE => k_is)
    (case lcE => k_is)
    (case ccE => k_is)
    (case kcE => k_is)
    (case acP => k_is)
    (case icP => k_is)
    (case lcP => k_is)
    (case ccP => k_is)
    (case kcP => k_is)
    (case acR => k_is)
    (case icR => k_is)
    (case lcR => k_is)
    (case ccR => k_is)
    (case kcR => k_is)
    (case z_sorted => k_is)
    (case apf => k_is)
    (case ipf => k_is)
    (case lpf => k_is)
    (case cpf => k_is)
    (case kpf => k_is)
    (case awr => k_is)
    (case iwr => k_is)
    (case lwr => k_is)
    (case cwr => k_is)
    (case kwr => k_is)
    (case ase => k_is)
    (case ise => k_is)
    (case lse => k_is)
    (case cse => k_is)
    (case kse => k_is)
    (case apo => k_is)
    (case ipo => k_is)
    (case lpo => k_is)
    (case cpo => k_is)
    (case kpo => k_is)
    (case awo => k_is)
    (case iwo => k_is)
    (case lwo => k_is)
    (case cwo => k_is)
    (case kwo => k_is)
    (case aX => k_is)
    (case lX => k_is)
    (case cX => k_is)
    (case kX => k_is)
    (case aH => k_is)
    (case lH => k_is)
    (case cH => k_is)
    (case kH => k_is)
    (case aD => k_is)
    (case lD => k_is)
    (case cD => k_is)
    (case kD => k_is)
    (case aK => k_is)
    (case lK => k_is)
    (case cK => k_is)
    (case kK => k_is)
    (case z_max => k_is)
    (case aB => k_is)
    (case lB => k_is)
    (case cB => k_is)
    (case kB => k_is)
    (case aP => k_is)
    (case lP => k_is)
    (case cP => k_is)
    (case kP => k_is)
    (case neC => k_is)
    (case aPT => k_is)
    (case lPT => k_is)
    (case cPT => k_is)
    (case kPT => k_is)
    (case aRW => k_is)
    (case lRW => k_is)
    (case cRW => k_is)
    (case kRW => k_is)
    (case aKO => k_is)
    (case lKO => k_is)
    (case cKO => k_is)
    (case kKO => k_is)
    (case aTB => k_is)
    (case lTB => k_is)
    (case cTB => k_is)
    (case kTB => k_is)
    (case aIS => k_is)
    (case lIS => k_is)
    (case cIS => k_is)
    (case kIS => k_is)
    (case aRF => k_is)
    (case lRF => k_is)
    (case cRF => k_is)
    (case kRF => k_is)
    (case aNC => k_is)
    (case lNC => k_is)
    (case cNC => k_is)
    (case kNC => k_is)
    (case aV => k_is)
    (case lV => k_is)
    (case cV => k_is)
    (case kV => k_is)

