import PyProof.Rows.All
import HandS.ForMost
import HandS.ExcInit
import HandS.ExcField
import HandS.ExcValue
import HandS.ExcIs
import HandS.FStr
import HandS.ClsMeth
import HandS.Ends
import PyProof.ReprRoads
import KE.KExcIs
import KE.KIsAll
import HandS.HeadHook4
import HandS.HeadWalk
import HandS.Head2
import HandS.AnyAll
import HandS.StrMore
import HandS.IsInst
import HandS.More
import HandS.Flow
import HandS.WordsExc
import PyProof.ReprBulk
import HandS.Zip
import PySem.Challenge.RW_bitneed_k02_refusals_by_hand
set_option Elab.async false
set_option linter.all false
set_option maxRecDepth 100000
set_option maxHeartbeats 2000000
namespace K2
open PySem PySem.Spec PyProof.Rows L2
/-! ### the text -/
def top (i : Nat) : Stmt := PySem.Challenge.pw_bitneed_k02_refusals_by_hand.main.body.getD i (.Pass ⟨0, 0, 0, 0⟩)
abbrev FnP (K : PySem.W.Frag) (x : PySem.Str) (st : Stmt) (f : Addr) (fd : FuncData) : Prop := FunD K x x (defArgs st) (defBody st) (defScope st) [] [] f fd
/-! ### rules of our own -/
section
variable {X : Cx}
/-- a list that is only read, and a new one behind it -/
theorem op_catR : OpR X (binaryOp .Add) (fun x y H Q => ∃ l b xs zs, x = .ref l ∧ y = .ref b ∧ SqL X.K H l xs ∧ H b = some (.lst zs) ∧ xs.length + zs.length ≤ sizeLine ∧ ∀ p, H p = none → Q (.ref p) (upd H p (.lst (xs ++ zs)))) := by
  intro pins s σ H x y v u Q I rx ry h
  obtain ⟨l, b, xs, zs, rfl, rfl, hs, hB, hz, q⟩ := h
  cases rx
  cases ry
  obtain ⟨its, rv, ⟨o, n, ho, hc, hdn, hd⟩, hlen⟩ := I.list hs
  obtain ⟨cls, dd, data, sl⟩ := o
  obtain rfl : cls = Value.type "list" := hc
  obtain rfl : data = Data.seq its.toArray n := hd
  obtain ⟨z2, its2, n2, r2, hl2, e2⟩ := I.lstM hB
  have hl := rv.length
  have ea : its.toArray ++ its2.toArray = (its ++ its2).toArray := by simp
  refine concat_meets ⟨_, ho, rfl⟩ ⟨_, e2, rfl⟩ noFill_list_add seq_list_add PySem.F.slot_list_add PySem.F.entry_list_add (PySem.F.args_list_add_2 _ _)
    (list_addW l b its.toArray its2.toArray n n2 dd none sl #[] (by rw [List.size_toArray, List.size_toArray, ← hl, ← hl2]; exact hz)) ⟨ho, e2, ?_⟩
  rw [ea]
  exact ⟨.ref _, _, I.lnew (t' := s.toks) (rv.append r2) (by rw [List.length_append]; exact hz), rfl, q _ I.fresh⟩
end
/-- a def whose code object is told -/
theorem okC {P : Program} {w : World} {K : PySem.W.Frag} {mg : PySem.Str → Option Value} {base : Heap} {x : PySem.Str} {st : Stmt} {fd : FuncData} {N ps : List PySem.Str} {k : Nat} {sp : Sp} {p : PySem.Str × Option PySem.Str} (F : FnP K x st (He.fAd K p) fd) (S : FnScope N ps (defScope st))
    (len : ∀ vs H Q E, sp vs H Q E → vs.length = ps.length)
    (hbody : ∀ (A : Around) (outer : List Env) (s : Shared) (H : Hp) (vs : List V) (Q : VK) (E : XK), Room k (A.deeper (envOfC x (defScope st) s.heap.objs.size (He.fAd K p) (.ref (He.codeOf K p)))) → sp vs H Q E →
      ∃ t, PSs (cxOf CX0 P w K mg base N x (defScope st) (He.fAd K p) (.ref (He.codeOf K p)) A outer s H E).nox (defBody st) t ∧ t { nx := fun _ H' => Q .non H', rt := Q } (start N vs) H) : FnOk P w K mg base CX0 (k + 1) (He.fAd K p) fd ps sp := by
  obtain ⟨oc, od, dV, kV, doc, pm, an, cdv, ct, osl, rfl, lk, hcd, _, _⟩ := F.ex
  obtain ⟨c, rfl⟩ := He.codeIn_ref hcd
  have e : He.codeOf K p = c := He.codeOf_eq lk rfl
  subst e
  refine fn_of lk hcd S len fun A outer s H vs Q E hr hsp => ?_
  obtain ⟨t, h, q⟩ := hbody A outer s H vs Q E hr hsp
  exact ⟨t, h.nox, q⟩
/-! ### what stays -/
/-- an object of the heap ahead, as it may stand behind: tables may have grown -/
def Ko (o : HO) (x : Option HO) : Prop := match o with
  | .tbl ps => ∃ qs, x = some (.tbl qs) ∧ (TriplesOk ps.toList → TriplesOk qs.toList)
  | o => x = some o
theorem ko_refl (o : HO) : Ko o (some o) := by
  cases o <;> first | rfl | exact ⟨_, rfl, fun h => h⟩
theorem ko_some {o : HO} {x : Option HO} (h : Ko o x) : ∃ u, x = some u := by
  cases o <;> first | exact ⟨_, h⟩ | (obtain ⟨qs, e, _⟩ := h; exact ⟨_, e⟩)
theorem ko_trans {o : HO} {x y : Option HO} (h : Ko o x) (k : ∀ u, x = some u → Ko u y) : Ko o y := by
  cases o <;> first | exact k _ h | (obtain ⟨qs, e, z⟩ := h; obtain ⟨rs, e2, z2⟩ := k _ e; exact ⟨rs, e2, fun q => z2 (z q)⟩)
/-- all that was tracked stands, but what stands at the addresses for which D holds -/
def Kept (D : Addr → Prop) (H H' : Hp) : Prop := ∀ b o, H b = some o → ¬ D b → Ko o (H' b)
theorem Kept.refl {D : Addr → Prop} {H : Hp} : Kept D H H := fun b o e _ => by rw [e]; exact ko_refl o
theorem Kept.trans {D : Addr → Prop} {H H1 H2 : Hp} (a : Kept D H H1) (b : Kept D H1 H2) : Kept D H H2 := fun c o e n => ko_trans (a c o e n) fun u q => b c u q n
theorem Kept.weak {D D' : Addr → Prop} {H H1 : Hp} (a : Kept D H H1) (h : ∀ b, D b → D' b) : Kept D' H H1 := fun c o e n => a c o e fun d => n (h c d)
theorem Kept.new {D : Addr → Prop} {H H1 : Hp} {p : Addr} {o : HO} (a : Kept D H H1) (n : H p = none) : Kept D H (upd H1 p o) := fun c u e d => by
  rw [upd_ne (ne_of_none e n)]
  exact a c u e d
theorem Kept.upd {D : Addr → Prop} {H H1 : Hp} {p : Addr} {o : HO} (a : Kept D H H1) (d : D p) : Kept D H (upd H1 p o) := fun c u e n => by
  rw [upd_ne (fun z => n (by rw [z]; exact d))]
  exact a c u e n
abbrev None : Addr → Prop := fun _ => False
theorem Kept.free {H H1 : Hp} (a : Kept None H H1) {p : Addr} (h : H1 p = none) : H p = none := by
  cases e : H p with
  | none => rfl
  | some o =>
    obtain ⟨u, q⟩ := ko_some (a p o e (fun z => z))
    rw [h] at q
    cases q
theorem Kept.lst {D : Addr → Prop} {H H1 : Hp} (a : Kept D H H1) {p : Addr} {xs : List V} (h : H p = some (.lst xs)) (n : ¬ D p) : H1 p = some (.lst xs) := a p _ h n
theorem Kept.tup {D : Addr → Prop} {H H1 : Hp} (a : Kept D H H1) {p : Addr} {xs : List V} (h : H p = some (.tup xs)) (n : ¬ D p) : H1 p = some (.tup xs) := a p _ h n
theorem Kept.dK {D : Addr → Prop} {H H1 : Hp} (a : Kept D H H1) {p : Addr} {kvs : List (Key × V)} (h : H p = some (.dK kvs)) (n : ¬ D p) : H1 p = some (.dK kvs) := a p _ h n
theorem Kept.frz {D : Addr → Prop} {H H1 : Hp} (a : Kept D H H1) {p : Addr} {o : Obj} {u : HO} (h : H p = some (.frz o u)) (n : ¬ D p) : H1 p = some (.frz o u) := a p _ h n
theorem Kept.tab {D : Addr → Prop} {H H1 : Hp} (a : Kept D H H1) {p : Addr} (h : GxR.TabG H p) (n : ¬ D p) : GxR.TabG H1 p := by
  obtain ⟨ps, e, z⟩ := h
  obtain ⟨qs, e2, z2⟩ := a p _ e n
  exact ⟨qs, e2, z2 z⟩
theorem Kept.sql {K : PySem.W.Frag} {D : Addr → Prop} {H H1 : Hp} (a : Kept D H H1) {p : Addr} {xs : List V} (h : SqL K H p xs) (n : ¬ D p) : SqL K H1 p xs := by
  rcases h with (h | ⟨o, h⟩) | h
  · exact .inl (.inl (a.lst h n))
  · exact .inl (.inr ⟨o, a.frz h n⟩)
  · exact .inr h
theorem Kept.of_tabbed {P : Addr} {H H1 : Hp} (t : GxR.TabG H P) (h : GxR.Tabbed P H H1) : Kept None H H1 := fun b o e _ => by
  by_cases hb : b = P
  · subst hb
    obtain ⟨ps, e1, z1⟩ := t
    obtain ⟨⟨qs, e2, z2⟩, _⟩ := h
    rw [e1] at e
    cases e
    exact ⟨qs, e2, fun _ => z2⟩
  · rw [h.2 b hb, e]
    exact ko_refl o
end K2

set_option Elab.async false
set_option linter.all false
set_option maxRecDepth 100000
set_option maxHeartbeats 2000000
namespace K2
open PySem PySem.Spec PyProof.Rows L2
/-! ### the draws -/
abbrev sBegin : Stmt := top 14
abbrev sMixed : Stmt := top 15
abbrev sNext : Stmt := top 16
theorem scBegin : FnScope ["script"] ["script"] (defScope sBegin) := ⟨rfl, rfl, rfl, by decide +kernel, rfl, by decide +kernel, by decide +kernel⟩
theorem scMixed : FnScope ["cell", "k", "number"] ["cell", "k"] (defScope sMixed) := ⟨rfl, rfl, rfl, by decide +kernel, rfl, by decide +kernel, by decide +kernel⟩
theorem scNext : FnScope ["draw", "many", "found", "cells", "cell"] ["draw", "many"] (defScope sNext) := ⟨rfl, rfl, rfl, by decide +kernel, rfl, by decide +kernel, by decide +kernel⟩
/-- the draw's pairs -/
def drK (c : Addr) (a l u : Int) : List (Key × V) := [(.inr "cells", .ref c), (.inr "at", .int a), (.inr "left", .int l), (.inr "used", .int u)]
theorem kn {x y : PySem.Str} (h : ¬ x = y) : ¬ (Sum.inr x : Key) = Sum.inr y := fun e => h (Sum.inr.inj e)
theorem n1 : ¬ (("cells" : PySem.Str) = "at") := by decide +kernel
theorem n2 : ¬ (("cells" : PySem.Str) = "left") := by decide +kernel
theorem n3 : ¬ (("cells" : PySem.Str) = "used") := by decide +kernel
theorem n4 : ¬ (("at" : PySem.Str) = "left") := by decide +kernel
theorem n5 : ¬ (("at" : PySem.Str) = "used") := by decide +kernel
theorem n6 : ¬ (("left" : PySem.Str) = "used") := by decide +kernel
theorem g_cells (c : Addr) (a l u : Int) : valV (drK c a l u) (Sum.inr "cells" : Key) = some (.ref c) := valV_pos rfl
theorem g_at (c : Addr) (a l u : Int) : valV (drK c a l u) (Sum.inr "at" : Key) = some (.int a) := (valV_neg (kn n1)).trans (valV_pos rfl)
theorem g_left (c : Addr) (a l u : Int) : valV (drK c a l u) (Sum.inr "left" : Key) = some (.int l) := (valV_neg (kn n2)).trans ((valV_neg (kn n4)).trans (valV_pos rfl))
theorem g_used (c : Addr) (a l u : Int) : valV (drK c a l u) (Sum.inr "used" : Key) = some (.int u) := (valV_neg (kn n3)).trans ((valV_neg (kn n5)).trans ((valV_neg (kn n6)).trans (valV_pos rfl)))
theorem p_at (c : Addr) (a l u z : Int) : putK (drK c a l u) (Sum.inr "at" : Key) (.int z) = drK c z l u := by
  unfold putK
  rw [if_pos (by rw [valV_any, g_at]; rfl)]
  unfold drK
  simp only [List.map_cons, List.map_nil, if_neg (kn n1), if_pos rfl, if_neg (kn (fun e => n4 e.symm)), if_neg (kn (fun e => n5 e.symm))]
  rfl
theorem p_left (c : Addr) (a l u z : Int) : putK (drK c a l u) (Sum.inr "left" : Key) (.int z) = drK c a z u := by
  unfold putK
  rw [if_pos (by rw [valV_any, g_left]; rfl)]
  unfold drK
  simp only [List.map_cons, List.map_nil, if_neg (kn n2), if_pos rfl, if_neg (kn n4), if_neg (kn (fun e => n6 e.symm))]
  rfl
theorem p_used (c : Addr) (a l u z : Int) : putK (drK c a l u) (Sum.inr "used" : Key) (.int z) = drK c a l z := by
  unfold putK
  rw [if_pos (by rw [valV_any, g_used]; rfl)]
  unfold drK
  simp only [List.map_cons, List.map_nil, if_neg (kn n3), if_pos rfl, if_neg (kn n5), if_neg (kn n6)]
  rfl
/-- a draw at d, its cells at c, at most n numbers drawn -/
structure Dr (H : Hp) (d c : Addr) (ns : List Int) (n : Nat) : Prop where
  at_ : ∃ a l u : Int, H d = some (.dK (drK c a l u)) ∧ 0 ≤ a ∧ a ≤ (n : Int) ∧ 0 ≤ l ∧ 0 ≤ u ∧ u ≤ (n : Int)
  cs : H c = some (.lst (ns.map V.int))
  ne : 1 ≤ ns.length ∧ ns.length ≤ 64
theorem Dr.dc {H : Hp} {d c : Addr} {ns : List Int} {n : Nat} (D : Dr H d c ns n) : c ≠ d := by
  obtain ⟨a, l, u, h, _⟩ := D.at_
  exact ne_of D.cs h (by intro z; cases z)
/-- only the draw may change -/
abbrev At (d : Addr) : Addr → Prop := fun b => b = d
theorem Dr.stay {H H1 : Hp} {d c : Addr} {ns : List Int} {n : Nat} (D : Dr H d c ns n) (k : Kept None H H1) : Dr H1 d c ns n := by
  obtain ⟨a, l, u, h, r⟩ := D.at_
  exact ⟨⟨a, l, u, k.dK h (fun z => z), r⟩, k.lst D.cs (fun z => z), D.ne⟩
theorem Dr.more {H : Hp} {d c : Addr} {ns : List Int} {n m : Nat} (D : Dr H d c ns n) (h : n ≤ m) : Dr H d c ns m := by
  obtain ⟨a, l, u, e, h1, h2, h3, h4, h5⟩ := D.at_
  exact ⟨⟨a, l, u, e, h1, by omega, h3, h4, by omega⟩, D.cs, D.ne⟩
theorem Dr.new {H : Hp} {d c p : Addr} {o : HO} {ns : List Int} {n : Nat} (D : Dr H d c ns n) (h : H p = none) : Dr (upd H p o) d c ns n := D.stay (Kept.refl.new h)
/-- a new address is new for what stood ahead, too -/
theorem At.free {H H1 : Hp} {d c : Addr} {ns : List Int} {n : Nat} (k : Kept (At d) H H1) (D : Dr H1 d c ns n) {p : Addr} (h : H1 p = none) : H p = none := by
  cases e : H p with
  | none => rfl
  | some o =>
    have hp : ¬ p = d := fun z => by
      obtain ⟨a, l, u, q, _⟩ := D.at_
      rw [z, q] at h
      cases h
    obtain ⟨u, q⟩ := ko_some (k p o e hp)
    rw [h] at q
    cases q
def spBegin (K : PySem.W.Frag) : Sp := fun vs H Q _ => ∃ (a : Addr) (ns : List Int), vs = [.ref a] ∧ SqL K H a (ns.map V.int) ∧ ns.length ≤ 63 ∧ ∀ d c H', H d = none → Kept None H H' → Dr H' d c (ns ++ [0]) 0 → Q (.ref d) H'
def spMixed : Sp := fun vs H Q _ => ∃ (x k : Int), vs = [.int x, .int k] ∧ 0 ≤ k ∧ k ≤ 1152921504606846976 ∧ ∀ r : Int, 0 ≤ r → Q (.int r) H
def spNext : Sp := fun vs H Q _ => ∃ (d c : Addr) (ns : List Int) (n : Nat) (m : Int), vs = [.ref d, .int m] ∧ Dr H d c ns n ∧ n ≤ 1000000000 ∧ 1 ≤ m ∧ m < 1073741824 ∧ ∀ (r : Int) H', 0 ≤ r → r < m → Kept (At d) H H' → Dr H' d c ns (n + 1) → Q (.int r) H'
section
variable {P : Program} {w : World} {K : PySem.W.Frag} {mg : PySem.Str → Option Value} {base : Heap} {f fM fN : Addr} {fd fdM fdN : FuncData}
theorem ok_begin (F : FnP K "_law_begin" sBegin f fd) : FnOk P w K mg base CX0 1 f fd ["script"] (spBegin K) := by
  refine F.ok (k := 0) scBegin (fun vs H Q E h => ?_) (fun cdv A outer s H vs Q E hr h => ?_)
  · obtain ⟨a, ns, rfl, _⟩ := h
    rfl
  · obtain ⟨a, ns, rfl, hS, hl, q⟩ := h
    refine ⟨_, PSs.nox (pss_one (ps_ret (pe_disp (pps_cons pe_str (pe_op op_catR (pv 0) (pe_lst (pa_cons pe_int pa_nil))) (pps_cons pe_str pe_int (pps_cons pe_str pe_int (pps_cons pe_str pe_int pps_nil)))) (by rfl) (by rfl) (fun z => by cases z) (by decide)))), ?_⟩
    refine fun d hd => ⟨.ref a, rfl, by show 1 ≤ sizeLine; decide, fun b hb => ?_⟩
    have k1 : Kept None H (upd H d (.dK [])) := Kept.refl.new hd
    have k2 : Kept None (upd H d (.dK [])) (upd (upd H d (.dK [])) b (.lst [.int 0])) := Kept.refl.new hb
    refine ⟨a, b, ns.map V.int, [.int 0], rfl, rfl, (k1.trans k2).sql hS (fun z => z), upd_same, ?_, fun c hc => ?_⟩
    · rw [List.length_map, sizeLine_eq]
      simp only [List.length_cons, List.length_nil]
      omega
    · have hdb : d ≠ b := fun e => by
        rw [← e, upd_same] at hb
        cases hb
      have hdc : d ≠ c := fun e => by
        rw [← e, upd_ne hdb, upd_same] at hc
        cases hc
      have k3 : Kept None (upd (upd H d (.dK [])) b (.lst [.int 0])) (upd (upd (upd H d (.dK [])) b (.lst [.int 0])) c (.lst (ns.map V.int ++ [.int 0]))) := Kept.refl.new hc
      refine ⟨by rw [upd_ne hdc, upd_ne hdb, upd_same], drK c 0 0 0, rfl, by show 4 ≤ 15; decide, ?_⟩
      have em : mergeK [] (drK c 0 0 0) = drK c 0 0 0 := by
        unfold mergeK drK
        simp [putK, kn n1, kn n2, kn n3, kn n4, kn n5, kn n6, n1, n2, n3, n4, n5, n6]
      rw [em]
      refine q d c _ hd ?_ ⟨⟨0, 0, 0, upd_same, by omega, by omega, by omega, by omega, by omega⟩, ?_, by rw [List.length_append]; simp only [List.length_cons, List.length_nil]; omega⟩
      · intro x o e n
        have hx : x ≠ d := ne_of_none e hd
        rw [upd_ne hx]
        exact ((k1.trans k2).trans k3) x o e n
      · rw [upd_ne (Ne.symm hdc), upd_same, List.map_append]
        rfl
theorem ok_mixed (F : FnP K "_law_mixed" sMixed f fd) : FnOk P w K mg base CX0 1 f fd ["cell", "k"] spMixed := by
  refine F.ok (k := 0) scMixed (fun vs H Q E h => ?_) (fun cdv A outer s H vs Q E hr h => ?_)
  · obtain ⟨x, k, rfl, _⟩ := h
    rfl
  · obtain ⟨x, k, rfl, h0, h1, q⟩ := h
    refine ⟨_, PSs.nox (pss_cons (ps_set (i := 2) scMixed.nd rfl (Or.inl rfl) (pe_op op_mod (pe_op op_add (pe_op op_add (pe_op op_add (pe_op op_mod (pv 0) pe_int) (pe_op op_mul (pe_op op_mul pe_int (pv 1)) (pv 1))) (pe_op op_mul pe_int (pv 1))) pe_int) pe_int))
      (pss_cons (ps_set (i := 2) scMixed.nd rfl (Or.inl rfl) (pe_op op_mod (pe_op op_mul (pe_op op_mod (pe_op op_mul (pv 2) (pv 2)) pe_int) (pv 2)) pe_int))
      (pss_one (ps_ret (pe_op op_fdiv (pe_op op_mod (pe_op op_mul (pv 2) (pe_op op_add pe_int (pe_op op_mul pe_int (pe_op op_mod (pv 1) pe_int)))) pe_int) pe_int))))), ?_⟩
    refine ⟨.int x, rfl, x, 1000000007, rfl, rfl, (by show (0 : Int) < 1000000007; decide), .int k, rfl, 7919, k, rfl, rfl, .inl ⟨by decide, by decide⟩, .int k, rfl, _, k, rfl, rfl, .inr ⟨by omega, by omega⟩, _, _, rfl, rfl, .int k, rfl, 31, k, rfl, rfl, .inl ⟨by decide, by decide⟩, _, _, rfl, rfl, _, _, rfl, rfl, _, _, rfl, rfl, (by show (0 : Int) < 2147483647; decide), ?_⟩
    dsimp only
    generalize hy : (x % 1000000007 + 7919 * k * k + 31 * k + 7) % 2147483647 = y
    have y0 : 0 ≤ y := by rw [← hy]; exact Int.emod_nonneg _ (by decide)
    have y1 : y < 2147483647 := by rw [← hy]; exact Int.emod_lt_of_pos _ (by decide)
    refine ⟨.int y, rfl, .int y, rfl, y, y, rfl, rfl, .inl ⟨by omega, by omega⟩, _, _, rfl, rfl, (by show (0 : Int) < 2147483647; decide), .int y, rfl, _, y, rfl, rfl, .inr ⟨by omega, by omega⟩, _, _, rfl, rfl, (by show (0 : Int) < 2147483629; decide), ?_⟩
    dsimp only
    generalize hz : (y * y % 2147483647 * y) % 2147483629 = z
    have z0 : 0 ≤ z := by rw [← hz]; exact Int.emod_nonneg _ (by decide)
    have z1 : z < 2147483629 := by rw [← hz]; exact Int.emod_lt_of_pos _ (by decide)
    refine ⟨.int z, rfl, .int k, rfl, k, 1000, rfl, rfl, (by show (0 : Int) < 1000; decide), 2, _, rfl, rfl, .inl ⟨by decide, by decide⟩, _, _, rfl, rfl, z, _, rfl, rfl, .inl ⟨by omega, by omega⟩, _, _, rfl, rfl, (by show (0 : Int) < 2147483647; decide), _, _, rfl, rfl, ⟨by show (0 : Int) < 7; decide, by show (7 : Int) < 1073741824; decide⟩, ?_⟩
    exact q _ (Int.ediv_nonneg (Int.emod_nonneg _ (by decide)) (by decide))
end
end K2

set_option Elab.async false
set_option linter.all false
set_option maxRecDepth 100000
set_option maxHeartbeats 2000000
namespace K2
open PySem PySem.Spec PyProof.Rows L2
section
variable {H : Hp} {d c : Addr} {a l u z : Int}
theorem gd_cells (h : H d = some (.dK (drK c a l u))) : DGet H d (.str "cells") (some (.ref c)) := by rw [← g_cells c a l u]; exact DGet.k (k := Sum.inr "cells") h
theorem gd_at (h : H d = some (.dK (drK c a l u))) : DGet H d (.str "at") (some (.int a)) := by rw [← g_at c a l u]; exact DGet.k (k := Sum.inr "at") h
theorem gd_left (h : H d = some (.dK (drK c a l u))) : DGet H d (.str "left") (some (.int l)) := by rw [← g_left c a l u]; exact DGet.k (k := Sum.inr "left") h
theorem gd_used (h : H d = some (.dK (drK c a l u))) : DGet H d (.str "used") (some (.int u)) := by rw [← g_used c a l u]; exact DGet.k (k := Sum.inr "used") h
theorem four : (drK c a l u).length < sizeLine := by show 4 < sizeLine; decide
theorem pd_at (h : H d = some (.dK (drK c a l u))) : DPut H d (.str "at") (.int z) (upd H d (.dK (drK c z l u))) := by rw [← p_at c a l u z]; exact DPut.k (k := Sum.inr "at") h four
theorem pd_left (h : H d = some (.dK (drK c a l u))) : DPut H d (.str "left") (.int z) (upd H d (.dK (drK c a z u))) := by rw [← p_left c a l u z]; exact DPut.k (k := Sum.inr "left") h four
theorem pd_used (h : H d = some (.dK (drK c a l u))) : DPut H d (.str "used") (.int z) (upd H d (.dK (drK c a l z))) := by rw [← p_used c a l u z]; exact DPut.k (k := Sum.inr "used") h four
end
section
variable {P : Program} {w : World} {K : PySem.W.Frag} {mg : PySem.Str → Option Value} {base : Heap} {f fM fN : Addr} {fd fdM fdN : FuncData}
theorem ok_next (F : FnP K "_law_next" sNext f fd) (GM : FnOk P w K mg base CX0 1 fM fdM ["cell", "k"] spMixed) (bM : Binds K fdM ["cell", "k"] []) (kM : PySem.W.keepIn K (.ref fM) = true) (gM : mg "_law_mixed" = some (.ref fM)) (m1 : mg "len" = none) :
    FnOk P w K mg base CX0 2 f fd ["draw", "many"] spNext := by
  refine F.ok (k := 1) scNext (fun vs H Q E h => ?_) (fun cdv A outer s H vs Q E hr h => ?_)
  · obtain ⟨d, c, ns, n, m, rfl, _⟩ := h
    rfl
  · obtain ⟨d, c, ns, n, m, rfl, D, hn, m0, m1', q⟩ := h
    have hu := hu_of hr
    refine ⟨_, PSs.nox (pss_cons (ps_if (pt_cmpR op_gt (pe_dget hu (pv 0) pe_str (fun _ _ => rfl)) pe_int (nomark _))
        (pss_cons (ps_set (i := 2) scNext.nd rfl (Or.inl rfl) (pe_op op_mod (pe_dget hu (pv 0) pe_str (fun _ _ => rfl)) (pv 1)))
        (pss_cons (ps_dput hu (pv 0) pe_str (pe_op op_fdiv (pe_dget hu (pv 0) pe_str (fun _ _ => rfl)) (pv 1)) rfl)
        (pss_one (ps_ret (pv 2))))) pss_nil)
      (pss_cons (ps_set (i := 3) scNext.nd rfl (Or.inl rfl) (pe_dget hu (pv 0) pe_str (fun _ _ => rfl)))
      (pss_cons (ps_set (i := 4) scNext.nd rfl (Or.inl rfl) (pe_ix ix_list (pv 3) (pe_op op_mod (pe_dget hu (pv 0) pe_str (fun _ _ => rfl)) (pe_callB call_len_seq (by rfl) m1 PySem.boot_len (pa_cons (pv 3) pa_nil))) (fun _ _ => rfl)))
      (pss_cons (ps_dput hu (pv 0) pe_str (pe_op op_add (pe_dget hu (pv 0) pe_str (fun _ _ => rfl)) pe_int) rfl)
      (pss_cons (ps_if (PW.pt (pw_and (pt_cmpR op_ge (pv 4) (pe_op op_pow pe_int pe_int) (nomark _)) (pw_and1 (pt_cmpR op_le (pe_dget hu (pv 0) pe_str (fun _ _ => rfl)) (pe_callB call_len_seq (by rfl) m1 PySem.boot_len (pa_cons (pv 3) pa_nil)) (nomark _)))))
        (pss_cons (ps_dput hu (pv 0) pe_str (pe_op op_fdiv (pv 4) (pv 1)) rfl) (pss_one (ps_ret (pe_op op_mod (pv 4) (pv 1))))) pss_nil)
      (pss_cons (ps_dput hu (pv 0) pe_str (pe_op op_add (pe_dget hu (pv 0) pe_str (fun _ _ => rfl)) pe_int) rfl)
      (pss_one (ps_ret (pe_op op_mod (pe_call GM hr (by rfl) gM kM bM .nil pass0 (pa_cons (by exact (pe_call GM hr (by rfl) gM kM bM .nil pass0 (pa_cons (pv 4) (pa_cons (pe_dget hu (pv 0) pe_str (fun _ _ => rfl)) pa_nil)))) (pa_cons (pe_dget hu (pv 0) pe_str (fun _ _ => rfl)) pa_nil))) (pv 1)))))))))), ?_⟩
    obtain ⟨a, l, u, hd, a0, a1, l0, u0, u1⟩ := D.at_
    have dc := D.dc
    refine ⟨.ref d, rfl, d, .int l, rfl, gd_left hd, l, 0, rfl, rfl, _, rfl, ite2 (fun hl => ?_) (fun hl => ?_)⟩
    · have hl' : 0 < l := of_decide_eq_true hl
      refine ⟨.ref d, rfl, d, .int l, rfl, gd_left hd, .int m, rfl, l, m, rfl, rfl, (by show 0 < m; omega), ?_⟩
      refine ⟨.ref d, rfl, d, .int l, rfl, gd_left hd, .int m, rfl, l, m, rfl, rfl, ⟨by omega, by omega⟩, .ref d, rfl, d, _, rfl, pd_left hd, ?_⟩
      refine ⟨.int (l % m), rfl, ?_⟩
      refine q (l % m) _ (Int.emod_nonneg _ (by omega)) (Int.emod_lt_of_pos _ (by omega)) (Kept.refl.upd rfl) ⟨⟨a, l / m, u, upd_same, a0, by omega, Int.ediv_nonneg l0 (by omega), u0, by omega⟩, by rw [upd_ne dc]; exact D.cs, D.ne⟩
    · have hL : (ns.map V.int).length = ns.length := List.length_map ..
      obtain ⟨h1, h64⟩ := D.ne
      refine ⟨.ref d, rfl, d, .ref c, rfl, gd_cells hd, ?_⟩
      have j0 : 0 ≤ a % (ns.length : Int) := Int.emod_nonneg _ (by omega)
      have j1 : a % (ns.length : Int) < (ns.length : Int) := Int.emod_lt_of_pos _ (by omega)
      obtain ⟨j, hj⟩ : ∃ j : Nat, a % (ns.length : Int) = (j : Int) := ⟨(a % (ns.length : Int)).toNat, by omega⟩
      have hjl : j < ns.length := by omega
      have hat : atI (ns.map V.int) (a % (((ns.map V.int).length : Nat) : Int)) = some (.int ns[j]) := by
        rw [hL, hj]
        exact atI_nat (j := j) (by rw [List.getElem?_map, List.getElem?_eq_getElem hjl]; rfl)
      refine ⟨.ref c, rfl, .ref d, rfl, d, .int a, rfl, gd_at hd, .ref c, rfl, c, ns.map V.int, rfl, .inl (.inl (.inl D.cs)), a, _, rfl, rfl, (by rw [hL]; omega), c, ns.map V.int, _, .int ns[j], rfl, rfl, .inl (.inl D.cs), hat, ?_⟩
      refine ⟨.ref d, rfl, d, .int a, rfl, gd_at hd, a, 1, rfl, rfl, .ref d, rfl, d, _, rfl, pd_at hd, ?_⟩
      have hd1 : upd H d (.dK (drK c (a + 1) l u)) d = some (.dK (drK c (a + 1) l u)) := upd_same
      have hc1 : upd H d (.dK (drK c (a + 1) l u)) c = some (.lst (ns.map V.int)) := by rw [upd_ne dc]; exact D.cs
      have kk1 : Kept (At d) H (upd H d (.dK (drK c (a + 1) l u))) := Kept.refl.upd rfl
      generalize upd H d (.dK (drK c (a + 1) l u)) = H1 at hd1 hc1 kk1 ⊢
      -- the last way
      have last : tSeq (sDPut (tVar 0) (tC (.str "used")) (tOp (rI0 fun i j => .int (i + j)) (tDGet (tVar 0) (tC (.str "used"))) (tC (.int 1)))) (tRet (tOp (rI (fun _ j => 0 < j) fun i j => .int (i % j)) (tCall spMixed [] E0 (tCons (tCall spMixed [] E0 (tCons (tVar 4) (tCons (tDGet (tVar 0) (tC (.str "at"))) tNil))) (tCons (tDGet (tVar 0) (tC (.str "used"))) tNil))) (tVar 1)))
          { nx := fun _ H' => Q .non H', rt := Q } [some (.ref d), some (.int m), none, some (.ref c), some (.int ns[j])] H1 := by
        refine ⟨.ref d, rfl, d, .int u, rfl, gd_used hd1, u, 1, rfl, rfl, .ref d, rfl, d, _, rfl, pd_used hd1, ?_⟩
        have hd2 : upd H1 d (.dK (drK c (a + 1) l (u + 1))) d = some (.dK (drK c (a + 1) l (u + 1))) := upd_same
        have hc2 : upd H1 d (.dK (drK c (a + 1) l (u + 1))) c = some (.lst (ns.map V.int)) := by rw [upd_ne dc]; exact hc1
        have kk2 : Kept (At d) H (upd H1 d (.dK (drK c (a + 1) l (u + 1)))) := kk1.upd rfl
        generalize upd H1 d (.dK (drK c (a + 1) l (u + 1))) = H2 at hd2 hc2 kk2 ⊢
        refine ⟨.int ns[j], rfl, .ref d, rfl, d, .int (a + 1), rfl, gd_at hd2, ns[j], a + 1, rfl, by omega, by omega, fun r1 hr1 => ?_⟩
        refine ⟨.ref d, rfl, d, .int (u + 1), rfl, gd_used hd2, r1, u + 1, rfl, by omega, by omega, fun r2 hr2 => ?_⟩
        refine ⟨.int m, rfl, r2, m, rfl, rfl, (by show 0 < m; omega), ?_⟩
        exact q (r2 % m) H2 (Int.emod_nonneg _ (by omega)) (Int.emod_lt_of_pos _ (by omega)) kk2 ⟨⟨a + 1, l, u + 1, hd2, by omega, by omega, l0, by omega, by omega⟩, hc2, D.ne⟩
      refine ⟨.int ns[j], rfl, 10, 18, rfl, rfl, ⟨by decide, by decide, by decide⟩, ns[j], _, rfl, rfl, _, rfl, ite2 (fun hge => ?_) (fun hge => ?_)⟩
      · refine ⟨.ref d, rfl, d, .int (a + 1), rfl, gd_at hd1, .ref c, rfl, c, ns.map V.int, rfl, .inl (.inl (.inl hc1)), a + 1, _, rfl, rfl, _, rfl, ite2 (fun hle => ?_) (fun hle => ?_)⟩
        · have hbig : (10 : Int) ^ (18 : Int).toNat ≤ ns[j] := of_decide_eq_true hge
          have hpos : (0 : Int) ≤ ns[j] := Int.le_trans (by decide) hbig
          refine ⟨.int ns[j], rfl, .int m, rfl, ns[j], m, rfl, rfl, ⟨by omega, by omega⟩, .ref d, rfl, d, _, rfl, pd_left hd1, ?_⟩
          refine ⟨.int ns[j], rfl, .int m, rfl, ns[j], m, rfl, rfl, (by show 0 < m; omega), ?_⟩
          exact q (ns[j] % m) _ (Int.emod_nonneg _ (by omega)) (Int.emod_lt_of_pos _ (by omega)) (kk1.upd rfl) ⟨⟨a + 1, ns[j] / m, u, upd_same, by omega, by omega, Int.ediv_nonneg hpos (by omega), u0, by omega⟩, by rw [upd_ne dc]; exact hc1, D.ne⟩
        · exact last
      · exact iteF last
end
end K2

set_option Elab.async false
set_option linter.all false
set_option maxRecDepth 100000
set_option maxHeartbeats 2000000
namespace K2
open PySem PySem.Spec PyProof.Rows L2
/-! ### exceptions of own classes that are held -/
/-- at a: an exception of the class at C, with its fields told or without any -/
def Held (H : Hp) (a C : Addr) : Prop := H a = some (ExO (.ref C) a) ∨ ∃ d fs, H a = some (exo a C (some d)) ∧ H d = some (exd d fs)
/-- what isinstance asks of the class -/
def rIsI (K : PySem.W.Frag) : List V → Hp → VK → Prop := fun xs H Q => ∃ (a C : Addr) (c : V) (cv : Value) (b : Bool), xs = [.ref a, c] ∧ ExcC K C ∧ Held H a C ∧ (∀ u, RelV c u → u = cv) ∧ PySem.W.kitOne K (.ref C) cv = some b ∧ Q (.bl b) H
section
variable {X : Cx}
theorem held_at {pins : List (Addr × Obj)} {σ : L2.St} {H : Hp} {s : Shared} {a C : Addr} (I : Inv X pins σ H s) (h : Held H a C) : ∃ ox od, PySem.W.InstAt s.heap a ox C od := by
  rcases h with h | ⟨d, fs, h, hd⟩
  · obtain ⟨⟨oe, vs, e, z, dd, _⟩, _, _⟩ := I.hok a _ h
    obtain ⟨oc, odx, oda, osl⟩ := oe
    obtain ⟨h1, h2⟩ := z
    dsimp only at h1 h2 dd
    subst h1 h2 dd
    exact ⟨_, none, e, rfl, rfl, trivial⟩
  · obtain ⟨t1, e⟩ := exo_at I.hok h
    obtain ⟨mA, hns, _⟩ := exd_at I.hok hd
    obtain ⟨od, ho, _⟩ := lookIn_ns hns
    exact ⟨_, some od, e, rfl, rfl, ho⟩
theorem call_isI : CallR X (.builtin "isinstance") (rIsI X.K) := by
  intro pins s σ H xs us Q I r h
  obtain ⟨a, C, c, cv, b, rfl, T, hh, hcv, e, q⟩ := h
  cases r with
  | cons rx rr =>
    cases rr with
    | cons rt rr =>
      cases rr
      cases rx
      have ec := hcv _ rt
      subst ec
      obtain ⟨ox, od, J⟩ := held_at I hh
      obtain ⟨cd, hcd, _⟩ := PySem.W.any_some T.hd
      exact PySem.W.kia_one (PySem.W.kitx_exc (od := od) (by rw [hcd]; rfl) T.hg T.hk T.hs T.ha T.hn T.ht T.hm) I.kIn J e (fun z => nomatch z) fun tk => ⟨.bl b, H, I.kept (t' := tk) fun _ _ z => z, rfl, q⟩
/-- x.f of an exception that is held, with its fields told -/
def tFld (K : PySem.W.Frag) (f : PySem.Str) (te : TE) : TE := fun σ H Q => te σ H fun x H1 => ∃ (a C d : Addr) (fs : List (PySem.Str × V)) (v : V), x = .ref a ∧ XfC K C ∧ PySem.W.findIn K (.ref C) f = some none ∧ H1 a = some (exo a C (some d)) ∧ H1 d = some (exd d fs) ∧ fs.lookup f = some v ∧ Q v H1
theorem pe_fld {e : Expr} {te : TE} {pos : Pos} {f : PySem.Str} (he : PE X e te) (hb : attributeBase e f X.env (eval e X.env) = eval e X.env := by rfl) : PE X (.Attribute e f pos) (tFld X.K f te) := by
  refine ⟨fun pins s σ H Q I h => attr_of hb (thn (he.run pins s σ H _ I h) fun u s1 hh => ?_)⟩
  obtain ⟨x, H1, I1, rx, a, C, d, fs, v, rfl, T, hno, ha, hd, hl, q⟩ := hh
  cases rx
  obtain ⟨t1, e1⟩ := exo_at I1.hok ha
  obtain ⟨mA, hns, hr⟩ := exd_at I1.hok hd
  obtain ⟨od, ho, hlk⟩ := lookIn_ns hns
  obtain ⟨u, hu, ru⟩ := RelO.some_of (v := v) (o := mA f) (by rw [← hl]; exact hr f)
  have J : PySem.W.InstAt s1.heap a _ C (some od) := ⟨e1, rfl, rfl, ho⟩
  exact HandSPX.exc_get I1.kIn J T.ga T.gg T.exC (PySem.W.findObj_own T.hdC hno rfl (by rw [hlk, hu])) (handed_of ru) ⟨v, H1, I1.tok _, ru, q⟩
end
end K2

set_option Elab.async false
set_option linter.all false
set_option maxRecDepth 100000
set_option maxHeartbeats 2000000
namespace K2
open PySem PySem.Spec PyProof.Rows L2
/-! ### an exception made, as a value -/
/-- C(e, ..): the exception stays tracked -/
def tMkV (C : Addr) (sp : Sp) (ta : TA) : TE := fun σ H Q => ta σ H fun vs H1 => vs.length ≤ 1000 ∧ ∀ a, H1 a = none → sp (.ref a :: vs) (upd H1 a (exo a C none)) (fun v H2 => v = .non ∧ Q (.ref a) H2) (fun _ _ _ => False)
section
variable {X : Cx}
theorem pe_mkV {CX : CXT} {x : PySem.Str} {C fI : Addr} {k : Nat} {fd : FuncData} {ps : List PySem.Str} {sp : Sp} {e : Expr} {es : List Expr} {ta : TA} {p pos : Pos} (T : OexC X.K C) (hI : PySem.W.findIn X.K (.ref C) "__init__" = some (some (.ref fI))) (hT : PySem.W.typeIn X.K (.ref fI) = some (.type "function"))
    (G : FnOk X.prog X.w X.K X.mg X.base CX k fI fd ps sp) (hr : Room (k + 1) X.A) (bi : Binds X.K fd ps []) (px : Passes CX X (fun _ _ _ => False)) (gl : Gl X x) (gm : X.mg x = some (.ref C)) (ha : PA X (e :: es) ta)
    (db : (x == ("__debug__" : PySem.Str)) = false := by decide) (st : starEach (e :: es) X.env = (false, eval e X.env) :: starEach es X.env := by rfl) (pl : (backTo pos (starEach es X.env)).any (·.1) = false := by rfl) :
    PE X (.Call (.Name x p) (e :: es) [] pos) (tMkV C sp ta) := by
  refine ⟨fun pins s σ H Q I h => wpAny_Call_Name_kw (ld_glob I gl gm ?_ db)⟩
  obtain ⟨nm, qn, N, bs, bm, sn, sub, ab, col, dd, k0, k1, k2, k3, k5, look, ve⟩ := T.cls
  refine PySem.W.callWith_K (h₀ := X.base) I.ok.mod.kin T.kC (thn (ha.run pos pins s σ H _ I h) fun us s1 ⟨vs, H1, I1, rel, few, q1⟩ => ⟨I1.kIn, ?_⟩) st pl
  show wpAny _ _ (call (.ref C) us) _ _ _
  obtain ⟨hp, g, dr, tk, os⟩ := s1
  have big : hp.objs.size ≤ hp.objs.size + 1 := Nat.le_succ _
  have spq := q1 (hp.objs.size + 1) (I1.hok.fresh big)
  have on : ∀ b o, hp.get? b = some o → ((hp.push (PySem.W.kdv_tup us)).push (PySem.HandSPX.excO C hp.objs.size)).get? b = some o := fun b o z => Heap.get?_push_of_some _ (Heap.get?_push_of_some _ z)
  have at' : ((hp.push (PySem.W.kdv_tup us)).push (PySem.HandSPX.excO C hp.objs.size)).get? (hp.objs.size + 1) = some (PySem.HandSPX.excO C hp.objs.size) := by heap_get
  have J : Inv X pins σ (upd H1 (hp.objs.size + 1) (exo (hp.objs.size + 1) C none)) ⟨(hp.push (PySem.W.kdv_tup us)).push (PySem.HandSPX.excO C hp.objs.size), g, dr, tk, os⟩ :=
    I1.laid (t' := tk) (a := hp.objs.size + 1) (o := exo (hp.objs.size + 1) C none) (h' := (hp.push (PySem.W.kdv_tup us)).push (PySem.HandSPX.excO C hp.objs.size)) on big (exo_ok at')
  have rel2 : Vals (V.ref (hp.objs.size + 1) :: vs) (Value.ref (hp.objs.size + 1) :: us) := .cons rfl rel
  have len2 : (Value.ref (hp.objs.size + 1) :: us).length = ps.length := (rel2.length.symm).trans (G.len _ _ _ _ spq)
  have fits : us.length ≤ sizeLine := by rw [← Paired.length rel, sizeLine_eq]; omega
  have bnd := bi ⟨(hp.push (PySem.W.kdv_tup us)).push (PySem.HandSPX.excO C hp.objs.size), g, dr, tk, os⟩ (Value.ref (hp.objs.size + 1) :: us) J.kIn (by rw [List.append_nil]; exact len2)
  rw [List.append_nil] at bnd
  refine wpAny_call (PySem.HandSPX.call_own F.excBase_ValueError (fun Y => PySem.HandSPX.refsVE_contains Y bm ve) (I1.kIn _ _ look) (PySem.W.looks_findIn I1.kIn hI) (fun self => PySem.W.bind_fn I1.kIn self hT) fits
    (codeAny_mono (G.run _ X.stack _ _ ⟨Value.ref (hp.objs.size + 1) :: us, []⟩ (Value.ref (hp.objs.size + 1) :: us) _ _ (fun _ _ _ => False) (hr.make C us []) (J.env0.make C us []) bnd rel2 spq) fun r s' z => ?_))
  cases r with
  | error er => exact px pins σ _ _ er s' J z
  | ok fl =>
    cases fl with
    | ret u =>
      obtain ⟨v, H2, I2, rv, ev, q2⟩ := J.after z
      subst ev
      exact ⟨rv, .ref (hp.objs.size + 1), H2, I2, rfl, q2⟩
    | next => exact False.elim z
    | brk => exact False.elim z
    | cont => exact False.elim z
/-- B.__init__(self, ..), B an own class over ValueError without one of its own -/
theorem pe_ini {B : Addr} {x : PySem.Str} {mc : Value} {e : Expr} {es : List Expr} {ta : TA} {p1 p2 pos : Pos} {pl : Sem Bool} (gl : Gl X x) (gm : X.mg x = some (.ref B)) (ga : PySem.W.specialIn X.K (.ref B) "__getattribute__" = some (some (.builtin "type.__getattribute__")))
    (rd : PySem.W.readsIn X.K B mc = true) (fc : PySem.W.findCls X.K (.ref B) mc "__init__" = some (.val (.builtin "ValueError.__init__"))) (ha : PA X (e :: es) ta)
    (hc : eval (.Call (.Attribute (.Name x p1) "__init__" p2) (e :: es) [] pos) X.env = (do
      let ov ← eval (.Name x p1) X.env
      standAt p2.atName
      let (f, first) ← holding [ov] (getMethod ov "__init__" pl)
      callWith pos f first (backTo pos (starEach (e :: es) X.env)) (backToKw pos (keywordEach [] X.env))) := by rfl)
    (st : starEach (e :: es) X.env = (false, eval e X.env) :: starEach es X.env := by rfl) (pn : (backTo pos (starEach es X.env)).any (·.1) = false := by rfl) (db : (x == ("__debug__" : PySem.Str)) = false := by decide) :
    PE X (.Call (.Attribute (.Name x p1) "__init__" p2) (e :: es) [] pos) (tVeI X.K ta) := by
  refine ⟨fun pins s σ H Q I h => PySem.W.methodCall_KW (ld_glob I gl gm ?_ db) hc⟩
  refine PySem.W.method_cls I.kIn ga (PySem.W.cls_value I.kIn rd fc (by rfl) ?_)
  show wpAny _ _ (callWith pos (Value.builtin "ValueError.__init__") [] (backTo pos (starEach (e :: es) X.env)) []) _ _ _
  refine PyProof.Rows.callWith_method1 (thn (ha.run pos pins _ σ H _ (I.tok _) h) fun us s1 ⟨vs, H1, I1, rel, a, C, ws, ev, few, T, ea, q⟩ => ?_) st pn
  subst ev
  cases rel with
  | @cons _ u0 _ ur r0 rw' =>
    obtain rfl : u0 = Value.ref a := r0
    exact oinit_ok T I1 ea (by rw [← Paired.length rw', sizeLine_eq]; omega) fun s' J => ⟨.non, H1, J, rfl, q⟩
/-- repr(x), x a list or a tuple -/
def rRepr (K : PySem.W.Frag) : List V → Hp → VK → Prop := fun xs H Q => ∃ (a : Addr) (d : PyData), xs = [.ref a] ∧ Dp K H (.ref a) d ∧ d.showable = true ∧ d.hasDict = false ∧ d.depth ≤ 100 ∧ d.shown.length ≤ sizeLine ∧ Q (.str d.shown) H
theorem call_reprL (hg : X.A.guards = some []) {k : Nat} (hr : Room k X.A) : CallR X (.builtin "repr") (rRepr X.K) := by
  intro pins s σ H xs us Q I r h
  obtain ⟨a, d, rfl, hD, hs, hn, h1, hz, q⟩ := h
  cases r with
  | cons rx rr =>
    cases rr
    cases rx
    obtain ⟨as, R⟩ := Dp.reads I d _ _ hD rfl
    refine repr_of_reads' R hs (fun z => by rw [hn] at z; cases z) hg (by have := hr.un; omega) (fun _ _ z => z) (fun h' u tk kp => ?_) hz
    exact ⟨.str d.shown, H, I.kept (t' := tk) kp, ⟨_, rfl⟩, q⟩
end
end K2

set_option Elab.async false
set_option linter.all false
set_option maxRecDepth 100000
set_option maxHeartbeats 2000000
namespace K2
open PySem PySem.Spec PyProof.Rows L2
/-! ### defs whose promise wants that no text of a thing is under way (repr) -/
structure FnG (P : Program) (w : World) (K : PySem.W.Frag) (mg : PySem.Str → Option Value) (base : Heap) (k : Nat) (f : Addr) (fd : FuncData) (ps : List PySem.Str) (sp : Sp) : Prop where
  len : ∀ vs H Q E, sp vs H Q E → vs.length = ps.length
  go : ∀ (A : Around) (outer : List Env) (s : Shared) (H : Hp) (ar : Args) (us : List Value) (vs : List V) (Q : VK) (E : XK), A.guards = some [] → Room k A → Env0 P w K mg base A outer s H → BindsTo s fd ar (ps.zip us) → Vals vs us → sp vs H Q E →
    codeAny (model P w) A (.call (.ref f) ar) (CR CX0 outer P w H s Q E) s
/-- by the body -/
theorem fnG_of {P : Program} {w : World} {K : PySem.W.Frag} {mg : PySem.Str → Option Value} {base : Heap} {x : PySem.Str} {st : Stmt} {f : Addr} {fd : FuncData} {N ps : List PySem.Str} {k : Nat} {sp : Sp} (F : FnP K x st f fd) (S : FnScope N ps (defScope st))
    (len : ∀ vs H Q E, sp vs H Q E → vs.length = ps.length)
    (body : ∀ (cdv : Value) (A : Around) (outer : List Env) (s : Shared) (H : Hp) (vs : List V) (Q : VK) (E : XK), A.guards = some [] → Room k (A.deeper (envOfC x (defScope st) s.heap.objs.size f cdv)) → sp vs H Q E →
      ∃ t, PSs (cxOf CX0 P w K mg base N x (defScope st) f cdv A outer s H E) (defBody st) t ∧ t { nx := fun _ H' => Q .non H', rt := Q } (start N vs) H) : FnG P w K mg base (k + 1) f fd ps sp := by
  obtain ⟨oc, od, dV, kV, doc, pm, an, cdv, ct, osl, rfl, look, code, _, _⟩ := F.ex
  refine ⟨len, fun A outer s H ar us vs Q E gd room e0 bnd rel spq => ?_⟩
  have inK : K.In s.heap := e0.mod.kin.keeps fun b o z => (e0.bs b o z).1
  have kinds : ∀ y ∈ ps.zip us, (defScope st).names.lookup y.1 = some .local ∨ ((defScope st).names.lookup y.1 = some .cell ∧ ((cellsFrom (s.heap.objs.size + 1) (defScope st).names []).lookup y.1).isSome = true) := by
    rintro ⟨n, v⟩ hy
    rcases S.par n (List.of_mem_zip hy).1 with z | z
    · exact .inl z
    · exact .inr ⟨z, PySem.W.cellsFrom_some _ _ _ (.inl z)⟩
  refine codeAny_call_function room.depth (inK _ _ look) rfl S.co S.gen rfl (PySem.W.codeRec_of inK code) (bnd _ _ _ _ ?_)
  refine wpAny_newFunctionEnv_cells S.kind kinds fun env ee s1 entered => ?_
  subst ee
  refine ⟨(e0.mod.nolimit.keeps fun b o z => (e0.bs b o z).1).keeps entered.toInCall.keep, codeAny_func ?_⟩
  obtain ⟨t, ht, z0⟩ := body cdv A outer s H vs Q E gd (room.deeper _) spq
  refine wpAny_mono (ht.run [] s1 (start N vs) H _ (inv_start S room.hd e0 (len _ _ _ _ spq) rel entered) z0) (fun fl s' out => ?_) fun _ _ z => z
  match fl, out with
  | .ret u, ⟨v, _, H', J, rv, z⟩ => exact ⟨v, H', J.os, J.bare, J.base, J.hok, rv, z⟩
  | .next, ⟨_, H', J, z⟩ => exact ⟨.non, H', J.os, J.bare, J.base, J.hok, rfl, z⟩
  | .brk, ⟨_, _, _, z⟩ => exact z.elim
  | .cont, ⟨_, _, _, z⟩ => exact z.elim
section
variable {X : Cx} {k : Nat} {f : Addr} {fd : FuncData} {ps : List PySem.Str} {sp : Sp} {E : XK} {x : PySem.Str} {p pos : Pos} {e : Expr} {es : List Expr} {t : TA}
/-- f(e, ..) -/
theorem pe_callG (F : FnG X.prog X.w X.K X.mg X.base k f fd ps sp) (gd : X.A.guards = some []) (room : Room k X.A) (gl : Gl X x) (gm : X.mg x = some (.ref f)) (kp : PySem.W.keepIn X.K (.ref f) = true) (bi : Binds X.K fd ps []) (px : Passes CX0 X E)
    (ha : PA X (e :: es) t) (db : (x == ("__debug__" : PySem.Str)) = false := by decide) (st : starEach (e :: es) X.env = (false, eval e X.env) :: starEach es X.env := by rfl) (pl : (backTo pos (starEach es X.env)).any (·.1) = false := by rfl) :
    PE X (.Call (.Name x p) (e :: es) [] pos) (tCall sp [] E t) := by
  refine ⟨fun pins s σ H Q I h => wpAny_Call_Name_kw (ld_glob I gl gm ?_ db)⟩
  refine PySem.W.callWith_K (h₀ := X.base) I.ok.mod.kin kp (thn (ha.run pos pins s σ H _ I h) fun us s1 ⟨vs, H1, I1, rel, z⟩ => ⟨I1.kIn, ?_⟩) st pl
  have z : sp (vs ++ []) H1 Q E := z
  rw [List.append_nil] at z
  have n1 : us.length = ps.length := (rel.length.symm).trans (F.len _ _ _ _ z)
  have bnd := bi s1 us I1.kIn (by rw [List.append_nil]; exact n1)
  rw [List.append_nil] at bnd
  refine wpAny_call (codeAny_mono (F.go X.A X.stack s1 H1 ⟨us, []⟩ us vs Q E gd room I1.env0 bnd rel z) fun r s' out => ?_)
  match r, out with
  | .error er, out => exact px pins σ H1 s1 er s' I1 out
  | .ok (.ret u), out => exact I1.after out
  | .ok .next, out => exact out.elim
  | .ok .brk, out => exact out.elim
  | .ok .cont, out => exact out.elim
end
/-- the law's own call -/
theorem goG {P : Program} {w : World} {K : PySem.W.Frag} {mg mb : PySem.Str → Option Value} {k : Nat} {f a : Addr} {fd : FuncData} {x : PySem.Str} {sp : Sp} {s : Shared} {us : List Value} {ns : List Int}
    (inK : K.In s.heap) (nG : s.heap.Ns mainGlobals mg) (nB : s.heap.Ns builtinsNs mb) (isB : ∀ y : PySem.Str, y ≠ "__name__" → mb y = bootBuiltins y) (lim : s.heap.NoLimit) (gens : s.gens = #[])
    (scr : s.heap.get? a = some { cls := .type "list", data := .seq us.toArray }) (iv : IntsAre us ns) (few : ns.length ≤ sizeLine) (room : Room k callerA)
    (F : ∀ base : Heap, K.In base → base.Ns mainGlobals mg → FnG P w K mg base k f fd [x] sp) (bi : ∀ (s : Shared) (u : Value), BindsTo s fd ⟨[u], []⟩ [(x, u)])
    (spq : ∀ H : Hp, Only H → SqL K H a (ns.map V.int) → sp [.ref a] H (fun v _ => v = .bl true) fun _ _ _ => False) :
    codeAny (model P w) callerA (.call (.ref f) ⟨[.ref a], []⟩) (fun r s' => r = .ok (.ret (.bool true)) ∧ OldK s.heap s'.heap ∧ s'.os = s.os ∧ AllBare s'.gens) s := by
  have main : ∀ H : Hp, Only H → SqL K H a (ns.map V.int) → HOk P w H s.heap → (∀ b, H b ≠ none → b = a ∧ K.lookup a = none) →
      codeAny (model P w) callerA (.call (.ref f) ⟨[.ref a], []⟩) (fun r s' => r = .ok (.ret (.bool true)) ∧ OldK s.heap s'.heap ∧ s'.os = s.os ∧ AllBare s'.gens) s := fun H only seq ok just => by
    have isNone : ∀ {b : Addr}, (b = a → K.lookup a = none → False) → H b = none := fun {b} no => by
      cases z : H b with
      | none => rfl
      | some u => exact (no (just b (by rw [z]; exact fun q => nomatch q)).1 (just b (by rw [z]; exact fun q => nomatch q)).2).elim
    have dictN : ∀ {b : Addr} {m : PySem.Str → Option Value}, s.heap.Ns b m → (hidT s.heap H).Ns b m := fun {b m} ⟨o, es, ep, at_, dat, more⟩ =>
      ⟨o, es, ep, hidT_get at_ (isNone fun eb _ => by
        subst eb
        have z := congrArg Obj.data (Option.some.inj (scr.symm.trans at_))
        have z' : Data.seq us.toArray _ = Data.dict es ep := z.trans dat
        cases z'), dat, more⟩
    have inK' : K.In (hidT s.heap H) := fun b o at_ => hidT_get (inK b o at_) (isNone fun eb no => by
      subst eb
      rw [no] at at_
      cases at_)
    have env : Env0 P w K mg (hidT s.heap H) callerA [] s H := by
      obtain ⟨mc, l1, l2⟩ := lim
      exact ⟨rfl, ⟨inK', dictN nG, ⟨mb, dictN nB, isB⟩, ⟨mc, dictN l1, l2⟩⟩, fun _ _ z => of_hidT z, Nat.le_of_eq (hidT_size _ _), trivial, fun b hb => (nomatch (show b ∈ ([] : List Addr) from hb)), ok, .of_eq gens⟩
    refine codeAny_mono ((F _ inK' (dictN nG)).go callerA [] s H ⟨[.ref a], []⟩ [.ref a] [.ref a] _ _ rfl room env (bi s (.ref a)) (.cons rfl .nil) (spq H only seq)) fun r s' out => ?_
    match r, out with
    | .error er, out => exact False.elim out
    | .ok .next, out => exact False.elim out
    | .ok .brk, out => exact False.elim out
    | .ok .cont, out => exact False.elim out
    | .ok (.ret u), ⟨v, H', os, bare, un, ok', rv, ev⟩ =>
      have ev' : v = .bl true := ev
      subst ev'
      obtain rfl : u = Value.bool true := rv
      refine ⟨rfl, OldK.of_keep fun b o at_ => ?_, os, bare⟩
      cases z : H b with
      | none => exact un.keep b o at_ z (fun q => (nomatch (show b ∈ ([] : List Addr) from q))) (fun q => nomatch q)
      | some u =>
        rcases only b with z' | ⟨ob, xs, z'⟩
        · rw [z] at z'
          cases z'
        · have one := (ok b _ z').1
          have two := (ok' b _ (un.frzs b ob _ z')).1
          rw [at_] at one
          cases one
          exact two
  have rel := vals_ints iv
  cases look : K.lookup a with
  | some o =>
    have eo := Option.some.inj (scr.symm.trans (inK a o look))
    subst eo
    exact main (fun _ => none) (fun _ => .inl rfl) (.inr ⟨_, us.toArray, _, look, rfl, rfl, rfl, by rw [List.size_toArray, iv.length]; exact few, by simpa using rel⟩) (fun b u z => by
      have z' : (none : Option HO) = some u := z
      cases z') fun b z => (z rfl).elim
  | none =>
    have on : ∀ b u, (if b = a then some (HO.frz { cls := .type "list", data := .seq us.toArray } (.lst (ns.map V.int))) else none) = some u → b = a ∧ u = HO.frz { cls := .type "list", data := .seq us.toArray } (.lst (ns.map V.int)) := fun b u z => by
      by_cases eb : b = a
      · rw [if_pos eb] at z
        exact ⟨eb, (Option.some.inj z).symm⟩
      · rw [if_neg eb] at z
        cases z
    refine main (fun b => if b = a then some (.frz { cls := .type "list", data := .seq us.toArray } (.lst (ns.map V.int))) else none) (fun b => ?_) (.inl (.inr ⟨_, if_pos rfl⟩)) (fun b u z => ?_) (fun b z => ?_)
    · by_cases eb : b = a
      · exact .inr ⟨_, _, if_pos eb⟩
      · exact .inl (if_neg eb)
    · obtain ⟨eb, eu⟩ := on b u z
      subst eb eu
      exact ⟨scr, by rw [List.length_map]; exact few, us, _, rel, scr⟩
    · by_cases eb : b = a
      · exact ⟨eb, look⟩
      · exact (z (if_neg eb)).elim
/-- the end -/
theorem walkG {l : PySem.W.OpenLaw} {n k : Nat} {q : Program} {loose : List PySem.Str} {XP : (PySem.Str → Option Value) → Heap → Prop} {YP : World → Heap → Prop} {d : DefRec} {x : PySem.Str} (most : l.most = some n) (small : n ≤ sizeLine) (nodf : d.params.defaults = []) (room : Room k callerA)
    (F : ∀ (w : World) (mg : PySem.Str → Option Value) (f : Addr) (h : Heap), YP w h → h.Ns mainGlobals mg → mg d.name = some (.ref f) → ∃ (K : PySem.W.Frag) (fd : FuncData) (sp : Sp), K.In h ∧ (∀ (s : Shared) (u : Value), BindsTo s fd ⟨[u], []⟩ [(x, u)]) ∧
      (∀ base : Heap, K.In base → base.Ns mainGlobals mg → FnG l.prog w K mg base k f fd [x] sp) ∧ ∀ (H : Hp) (a : Addr) (ns : List Int), ns.length ≤ n → SqL K H a (ns.map V.int) → sp [.ref a] H (fun v _ => v = .bl true) fun _ _ _ => False) :
    PySem.W.WalkO q loose XP YP l.row.toRowW d [] (fun f vs => PySem.call f vs) := by
  refine Att.attach_call most nodf fun w s0 s1 mg mb f o pm cd doc a us ns G Y _ _ _ hmg scr iv few gens => ?_
  obtain ⟨K, fd, sp, inK, bi, hF, spq⟩ := F w mg f _ Y G.T.g hmg
  exact goG inK G.T.g G.T.b G.T.builtins G.T.nolimit gens scr iv (Nat.le_trans few small) room hF bi fun H _ seq => spq H a ns few seq
end K2

set_option Elab.async false
set_option linter.all false
set_option maxRecDepth 100000
set_option maxHeartbeats 2000000
namespace K2
open PySem PySem.Spec PyProof.Rows L2
/-! ### the two classes that keep fields -/
def inner0 (st : Stmt) : Stmt := match st with
  | .ClassDef _ _ _ b _ _ _ _ _ _ _ => b.getD 0 (.Pass ⟨0, 0, 0, 0⟩)
  | s => s
abbrev sBad : Stmt := inner0 (top 2)
abbrev sUns : Stmt := inner0 (top 3)
theorem scBad : FnScope ["self", "line", "word"] ["self", "line", "word"] (defScope sBad) := ⟨rfl, rfl, rfl, by decide +kernel, rfl, by decide +kernel, by decide +kernel⟩
theorem scUns : FnScope ["self", "place", "what"] ["self", "place", "what"] (defScope sUns) := ⟨rfl, rfl, rfl, by decide +kernel, rfl, by decide +kernel, by decide +kernel⟩
/-- a text of at most a hundred signs, a number below a thousand millions -/
def Small (v : V) : Prop := (∃ y : PySem.Str, v = .str y ∧ y.length ≤ 100) ∨ ∃ i : Int, v = .int i ∧ 0 ≤ i ∧ i < 1000000000
theorem small_log {i : Int} (h0 : 0 ≤ i) (h1 : i < 1000000000) : i.natAbs.log2 < 1920 := by
  by_cases h : i.natAbs = 0
  · rw [h]; decide
  · exact (Nat.log2_lt h).mpr (Nat.lt_of_lt_of_le (show i.natAbs < 2 ^ 30 by omega) (Nat.pow_le_pow_right (by decide) (by decide)))
/-- a part of an f-string -/
theorem fmt_small {te : TE} {σ : L2.St} {H : Hp} {v : V} {Q : VK} (h : Small v) (e : ∀ R : VK, R v H → te σ H R) (q : ∀ y : PySem.Str, y.length ≤ 2000 → Q (.str y) H) : tFmt te σ H Q := by
  refine e _ ?_
  rcases h with ⟨y, rfl, h⟩ | ⟨i, rfl, h0, h1⟩
  · exact .inl ⟨y, rfl, by rw [sizeLine_eq]; omega, q y (by omega)⟩
  · exact .inr ⟨i, rfl, small_log h0 h1, q _ (Nat.le_trans (int_text_len_1921 (small_log h0 h1)) (by decide))⟩
theorem app_le {a b : PySem.Str} {m n k : Nat} (h1 : a.length ≤ m) (h2 : b.length ≤ n) (h : m + n ≤ k) : (a ++ b).length ≤ k := by
  rw [PySem.Str.length_append]; omega
theorem js_c {ts : List TE} {acc z : PySem.Str} {σ : L2.St} {H : Hp} {Q : PySem.Str → Hp → Prop} {m : Nat} (h1 : acc.length ≤ m) (h2 : z.length ≤ 100) (h : m + 100 ≤ 100000) (q : (acc ++ z).length ≤ m + 100 → tJs ts (acc ++ z) σ H Q) : tJs (tC (.str z) :: ts) acc σ H Q :=
  ⟨z, rfl, by rw [sizeLine_eq]; exact app_le h1 h2 (by omega), q (app_le h1 h2 (Nat.le_refl _))⟩
theorem js_v {ts : List TE} {acc : PySem.Str} {te : TE} {σ : L2.St} {H : Hp} {v : V} {Q : PySem.Str → Hp → Prop} {m : Nat} (h1 : acc.length ≤ m) (hv : Small v) (e : ∀ R : VK, R v H → te σ H R) (h : m + 2000 ≤ 100000) (q : ∀ out : PySem.Str, out.length ≤ m + 2000 → tJs ts out σ H Q) : tJs (tFmt te :: ts) acc σ H Q :=
  fmt_small hv e fun y hy => ⟨y, rfl, by rw [sizeLine_eq]; exact app_le h1 hy (by omega), q _ (app_le h1 hy (Nat.le_refl _))⟩
def spIni (K : PySem.W.Frag) (C : Addr) (f1 f2 : PySem.Str) : Sp := fun vs H Q _ => ∃ (a : Addr) (x y : V), vs = [.ref a, x, y] ∧ H a = some (exo a C none) ∧ Small x ∧ Small y ∧
  ∀ d, H d = none → d ≠ a → Q .non (upd (upd (upd H d (exd d [(f1, x)])) a (exo a C (some d))) d (exd d [(f2, y), (f1, x)]))
/-- what the classes over ValueError must say -/
structure BaseC (K : PySem.W.Frag) (B : Addr) : Prop where
  ga : PySem.W.specialIn K (.ref B) "__getattribute__" = some (some (.builtin "type.__getattribute__"))
  rd : PySem.W.readsIn K B (.type "type") = true
  fc : PySem.W.findCls K (.ref B) (.type "type") "__init__" = some (.val (.builtin "ValueError.__init__"))
section
variable {P : Program} {w : World} {K : PySem.W.Frag} {mg : PySem.Str → Option Value} {base : Heap} {f B C : Addr} {fd : FuncData}
theorem ini_read {σ : L2.St} {H : Hp} {a : Addr} {x y : V} {f1 f2 : PySem.Str} {D : Ends} (T : OexC K C) (n1 : PySem.W.findIn K (.ref C) f1 = some none) (n2 : PySem.W.findIn K (.ref C) f2 = some none) (ha : H a = some (exo a C none)) (e0 : σ[0]? = some (some (.ref a))) (e1 : σ[1]? = some (some x)) (e2 : σ[2]? = some (some y))
    (q : ∀ d, H d = none → d ≠ a → D.nx σ (upd (upd (upd H d (exd d [(f1, x)])) a (exo a C (some d))) d (exd d [(f2, y), (f1, x)]))) :
    tSeq (tOst K f1 (tVar 0) (tVar 1)) (tSeq (tOst K f2 (tVar 0) (tVar 2)) tNext) D σ H := by
  refine ⟨x, by rw [e1], .ref a, by rw [e0], a, C, rfl, T, n1, .inl ⟨ha, fun d hd ne => ?_⟩⟩
  refine ⟨y, by rw [e2], .ref a, by rw [e0], a, C, rfl, T, n2, .inr ⟨d, [(f1, x)], by rw [upd_same], by rw [upd_ne ne, upd_same], (show 1 ≤ 900 by decide), ?_⟩⟩
  exact q d hd ne
theorem ok_bad (F : FunD K "__init__" "BadText.__init__" (defArgs sBad) (defBody sBad) (defScope sBad) [] [] f fd) (T : OexC K C) (n1 : PySem.W.findIn K (.ref C) "line" = some none) (n2 : PySem.W.findIn K (.ref C) "word" = some none) (b : BaseC K B) (gB : mg "BitError" = some (.ref B)) :
    FnOk P w K mg base CX0 1 f fd ["self", "line", "word"] (spIni K C "line" "word") := by
  refine F.ok (k := 0) scBad (fun vs H Q E h => ?_) (fun cdv A outer s H vs Q E hr h => ?_)
  · obtain ⟨a, x, y, rfl, _⟩ := h
    rfl
  · obtain ⟨a, x, y, rfl, ha, hx, hy, q⟩ := h
    refine ⟨_, PSs.nox (pss_cons (ps_expr (pe_ini (by rfl) gB b.ga b.rd b.fc (pa_cons (pv 0) (pa_cons (pe_joined (.cons pe_str (.cons (pe_fmt (pv 1)) (.cons pe_str (.cons (pe_fmt (pv 2)) (.cons pe_str .nil)))))) pa_nil))))
      (pss_cons (ps_ost (pv 0) (pv 1)) (pss_cons (ps_ost (pv 0) (pv 2)) pss_nil))), ?_⟩
    refine ⟨.ref a, rfl, ?_⟩
    refine js_c (m := 0) (Nat.le_refl _) (by decide +kernel) (by decide) fun h1 => ?_
    refine js_v h1 hx (fun R r => ⟨x, rfl, r⟩) (by decide) fun o1 h2 => ?_
    refine js_c h2 (by decide +kernel) (by decide) fun h3 => ?_
    refine js_v h3 hy (fun R r => ⟨y, rfl, r⟩) (by decide) fun o2 h4 => ?_
    refine js_c h4 (by decide +kernel) (by decide) fun h5 => ?_
    exact ⟨a, C, _, rfl, (show 1 ≤ 1000 by decide), T, ha, ini_read T n1 n2 ha rfl rfl rfl q⟩
theorem ok_uns (F : FunD K "__init__" "Unsound.__init__" (defArgs sUns) (defBody sUns) (defScope sUns) [] [] f fd) (T : OexC K C) (n1 : PySem.W.findIn K (.ref C) "place" = some none) (n2 : PySem.W.findIn K (.ref C) "what" = some none) (b : BaseC K B) (gB : mg "BitError" = some (.ref B)) :
    FnOk P w K mg base CX0 1 f fd ["self", "place", "what"] (spIni K C "place" "what") := by
  refine F.ok (k := 0) scUns (fun vs H Q E h => ?_) (fun cdv A outer s H vs Q E hr h => ?_)
  · obtain ⟨a, x, y, rfl, _⟩ := h
    rfl
  · obtain ⟨a, x, y, rfl, ha, hx, hy, q⟩ := h
    refine ⟨_, PSs.nox (pss_cons (ps_expr (pe_ini (by rfl) gB b.ga b.rd b.fc (pa_cons (pv 0) (pa_cons (pe_joined (.cons pe_str (.cons (pe_fmt (pv 1)) (.cons pe_str (.cons (pe_fmt (pv 2)) .nil))))) pa_nil))))
      (pss_cons (ps_ost (pv 0) (pv 1)) (pss_cons (ps_ost (pv 0) (pv 2)) pss_nil))), ?_⟩
    refine ⟨.ref a, rfl, ?_⟩
    refine js_c (m := 0) (Nat.le_refl _) (by decide +kernel) (by decide) fun h1 => ?_
    refine js_v h1 hx (fun R r => ⟨x, rfl, r⟩) (by decide) fun o1 h2 => ?_
    refine js_c h2 (by decide +kernel) (by decide) fun h3 => ?_
    refine js_v h3 hy (fun R r => ⟨y, rfl, r⟩) (by decide) fun o2 h4 => ?_
    exact ⟨a, C, _, rfl, (show 1 ≤ 1000 by decide), T, ha, ini_read T n1 n2 ha rfl rfl rfl q⟩
end
end K2

set_option Elab.async false
set_option linter.all false
set_option maxRecDepth 100000
set_option maxHeartbeats 2000000
namespace K2
open PySem PySem.Spec PyProof.Rows L2
/-! ### which words take an exception -/
def nm (i : Nat) : PySem.Str := (["BadText", "Unsound", "BadProgram", "BadInput", "BadPlace", "BadFacts", "BadWidths", "BadPaper", "BadAsked", "TooMany", "BadLine"] : List PySem.Str).getD i PySem.Str.empty
def wd (i : Nat) : PySem.Str := (["text", "unsound", "program", "input", "place", "facts", "widths", "paper", "asked", "many", "line"] : List PySem.Str).getD i PySem.Str.empty
abbrev ca (K : PySem.W.Frag) (i : Nat) : Addr := He.ga K (nm i)
structure Kits (K : PySem.W.Frag) : Prop where
  kit : ∀ i, i < 11 → ∀ j, j < 11 → PySem.W.kitOne K (.ref (ca K i)) (.ref (ca K j)) = some (i == j)
  exc : ∀ i, i < 11 → ExcC K (ca K i)
abbrev sWd : Stmt := top 17
theorem scWd : FnScope ["error", "found", "word", "is_so"] ["error"] (defScope sWd) := ⟨rfl, rfl, rfl, by decide +kernel, rfl, by decide +kernel, by decide +kernel⟩
theorem Held.stay {H H1 : Hp} {a C : Addr} (h : Held H a C) {D : Addr → Prop} (k : Kept D H H1) (n : ∀ b, H b ≠ none → ¬ D b) : Held H1 a C := by
  rcases h with h | ⟨d, fs, h, hd⟩
  · exact .inl (k a _ h (n a (by rw [h]; exact fun z => nomatch z)))
  · exact .inr ⟨d, fs, k a _ h (n a (by rw [h]; exact fun z => nomatch z)), k d _ hd (n d (by rw [hd]; exact fun z => nomatch z))⟩
theorem Held.stay0 {H H1 : Hp} {a C : Addr} (h : Held H a C) (k : Kept None H H1) : Held H1 a C := h.stay k fun _ _ z => z
/-- pairs of a word and a truth -/
def PairAt (H : Hp) (v : V) (p : PySem.Str × Bool) : Prop := ∃ a, v = .ref a ∧ H a = some (.tup [.str p.1, .bl p.2])
inductive PairsAt (H : Hp) : List V → List (PySem.Str × Bool) → Prop where
  | nil : PairsAt H [] []
  | cons {x : V} {p : PySem.Str × Bool} {xs : List V} {ps : List (PySem.Str × Bool)} (a : PairAt H x p) (r : PairsAt H xs ps) : PairsAt H (x :: xs) (p :: ps)
theorem PairAt.stay {H H1 : Hp} {v : V} {p : PySem.Str × Bool} (h : PairAt H v p) (k : Kept None H H1) : PairAt H1 v p := by
  obtain ⟨a, e, z⟩ := h
  exact ⟨a, e, k.tup z (fun z => z)⟩
theorem PairsAt.stay {H H1 : Hp} {xs : List V} {ps : List (PySem.Str × Bool)} (h : PairsAt H xs ps) (k : Kept None H H1) : PairsAt H1 xs ps := by
  induction h with
  | nil => exact .nil
  | cons a _ ih => exact .cons (a.stay k) ih
theorem PairsAt.more {H : Hp} {xs ys : List V} {ps qs : List (PySem.Str × Bool)} (h : PairsAt H xs ps) (g : PairsAt H ys qs) : PairsAt H (xs ++ ys) (ps ++ qs) := by
  induction h with
  | nil => exact g
  | cons a _ ih => exact .cons a ih
theorem PairsAt.len {H : Hp} {xs : List V} {ps : List (PySem.Str × Bool)} (h : PairsAt H xs ps) : xs.length = ps.length := by
  induction h with
  | nil => rfl
  | cons _ _ ih => simp only [List.length_cons, ih]
theorem PairsAt.at_ {H : Hp} {xs : List V} {ps : List (PySem.Str × Bool)} (h : PairsAt H xs ps) : ∀ {i : Nat} {v : V}, xs[i]? = some v → ∃ p, ps[i]? = some p ∧ PairAt H v p := by
  induction h with
  | nil => intro i v e; cases i <;> cases e
  | @cons x p xs ps a _ ih =>
    intro i v e
    cases i with
    | zero =>
      obtain rfl : x = v := Option.some.inj e
      exact ⟨p, rfl, a⟩
    | succ i => exact ih (i := i) e
/-- one pair, written -/
abbrev tPair (K : PySem.W.Frag) (w : PySem.Str) (C : Addr) : TE := tTup (tCons (tC (.str w)) (tCons (tCB (rIsI K) (tCons (tVar 0) (tCons (tC (.ref C)) tNil))) tNil))
def tPairs (K : PySem.W.Frag) : List (PySem.Str × Addr × Bool) → TA
  | [] => tNil
  | r :: l => tCons (tPair K r.1 r.2.1) (tPairs K l)
section
variable {K : PySem.W.Frag} {σ : L2.St} {a C : Addr}
theorem pairs_read (e0 : σ[0]? = some (some (.ref a))) (T : ExcC K C) : ∀ (l : List (PySem.Str × Addr × Bool)) (H : Hp) (R : List V → Hp → Prop), Held H a C → (∀ r ∈ l, PySem.W.kitOne K (.ref C) (.ref r.2.1) = some r.2.2) →
    (∀ xs H', Kept None H H' → PairsAt H' xs (l.map fun r => (r.1, r.2.2)) → R xs H') → tPairs K l σ H R
  | [], H, R, _, _, q => q [] H Kept.refl .nil
  | r :: l, H, R, hh, hk, q => by
    refine ⟨.ref a, e0, a, C, .ref r.2.1, .ref r.2.1, r.2.2, rfl, T, hh, fun u z => z, hk r List.mem_cons_self, (show 2 ≤ sizeLine by decide), fun p hp => ?_⟩
    have k1 : Kept None H (upd H p (.tup [.str r.1, .bl r.2.2])) := Kept.refl.new hp
    refine pairs_read e0 T l _ _ (hh.stay0 k1) (fun z hz => hk z (List.mem_cons_of_mem _ hz)) fun xs H' k2 hx => ?_
    exact q (.ref p :: xs) H' (k1.trans k2) (.cons ⟨p, rfl, k2.tup upd_same (fun z => z)⟩ hx)
theorem lst_read {R : VK} {l : List (PySem.Str × Addr × Bool)} {H : Hp} (e0 : σ[0]? = some (some (.ref a))) (T : ExcC K C) (hh : Held H a C) (few : l.length ≤ 100) (hk : ∀ r ∈ l, PySem.W.kitOne K (.ref C) (.ref r.2.1) = some r.2.2)
    (q : ∀ p xs H', Kept None H H' → H p = none → H' p = some (.lst xs) → PairsAt H' xs (l.map fun r => (r.1, r.2.2)) → R (.ref p) H') : tLst (tPairs K l) σ H R := by
  refine pairs_read e0 T l H _ hh hk fun xs H' k hx => ⟨?_, fun p hp => ?_⟩
  · have e := hx.len
    rw [List.length_map] at e
    rw [e, sizeLine_eq]; omega
  · have k2 : Kept None H' (upd H' p (.lst xs)) := Kept.refl.new hp
    exact q p xs _ (k.trans k2) (k.free hp) upd_same (hx.stay k2)
def rCat (K : PySem.W.Frag) : R2 := fun x y H Q => ∃ l b xs zs, x = .ref l ∧ y = .ref b ∧ SqL K H l xs ∧ H b = some (.lst zs) ∧ xs.length + zs.length ≤ sizeLine ∧ ∀ p, H p = none → Q (.ref p) (upd H p (.lst (xs ++ zs)))
theorem op_catK {X : Cx} : OpR X (binaryOp .Add) (rCat X.K) := op_catR
theorem cat_read {R : VK} {l : List (PySem.Str × Addr × Bool)} {ps : List (PySem.Str × Bool)} {f : Addr} {xs : List V} {H : Hp} (e0 : σ[0]? = some (some (.ref a))) (e1 : σ[1]? = some (some (.ref f))) (hf : H f = some (.lst xs)) (hx : PairsAt H xs ps) (T : ExcC K C) (hh : Held H a C) (few : l.length ≤ 100) (few2 : ps.length ≤ 100)
    (hk : ∀ r ∈ l, PySem.W.kitOne K (.ref C) (.ref r.2.1) = some r.2.2)
    (q : ∀ p ys H', Kept None H H' → H p = none → H' p = some (.lst ys) → PairsAt H' ys (ps ++ l.map fun r => (r.1, r.2.2)) → R (.ref p) H') : tOp (rCat K) (tVar 1) (tLst (tPairs K l)) σ H R := by
  refine ⟨.ref f, e1, lst_read e0 T hh few hk fun b zs H' k hb hz hp => ?_⟩
  have n1 := hx.len
  have n2 := hp.len
  rw [List.length_map] at n2
  refine ⟨f, b, xs, zs, rfl, rfl, .inl (.inl (k.lst hf (fun z => z))), hz, by rw [sizeLine_eq]; omega, fun p np => ?_⟩
  have k2 : Kept None H' (upd H' p (.lst (xs ++ zs))) := Kept.refl.new np
  exact q p _ _ (k.trans k2) (k.free np) upd_same (((hx.stay k).more hp).stay k2)
end
section
variable {K : PySem.W.Frag} {σ : L2.St} {a C : Addr} {H : Hp} {R : VK} {w1 w2 : PySem.Str} {c1 c2 : Addr} {b1 b2 : Bool}
theorem lst2 (e0 : σ[0]? = some (some (.ref a))) (T : ExcC K C) (hh : Held H a C) (h1 : PySem.W.kitOne K (.ref C) (.ref c1) = some b1) (h2 : PySem.W.kitOne K (.ref C) (.ref c2) = some b2)
    (q : ∀ p xs H', Kept None H H' → H p = none → H' p = some (.lst xs) → PairsAt H' xs [(w1, b1), (w2, b2)] → R (.ref p) H') : tLst (tCons (tPair K w1 c1) (tCons (tPair K w2 c2) tNil)) σ H R :=
  lst_read (l := [(w1, c1, b1), (w2, c2, b2)]) e0 T hh (show 2 ≤ 100 by decide) (fun r hr => by
    rcases List.mem_cons.mp hr with rfl | hr
    · exact h1
    · rcases List.mem_cons.mp hr with rfl | hr
      · exact h2
      · cases hr) q
theorem cat2 {ps : List (PySem.Str × Bool)} {f : Addr} {xs : List V} (e0 : σ[0]? = some (some (.ref a))) (e1 : σ[1]? = some (some (.ref f))) (hf : H f = some (.lst xs)) (hx : PairsAt H xs ps) (few : ps.length ≤ 100) (T : ExcC K C) (hh : Held H a C) (h1 : PySem.W.kitOne K (.ref C) (.ref c1) = some b1) (h2 : PySem.W.kitOne K (.ref C) (.ref c2) = some b2)
    (q : ∀ p xs H', Kept None H H' → H p = none → H' p = some (.lst xs) → PairsAt H' xs (ps ++ [(w1, b1), (w2, b2)]) → R (.ref p) H') : tOp (rCat K) (tVar 1) (tLst (tCons (tPair K w1 c1) (tCons (tPair K w2 c2) tNil))) σ H R :=
  cat_read (l := [(w1, c1, b1), (w2, c2, b2)]) e0 e1 hf hx T hh (show 2 ≤ 100 by decide) few (fun r hr => by
    rcases List.mem_cons.mp hr with rfl | hr
    · exact h1
    · rcases List.mem_cons.mp hr with rfl | hr
      · exact h2
      · cases hr) q
theorem cat1 {ps : List (PySem.Str × Bool)} {f : Addr} {xs : List V} (e0 : σ[0]? = some (some (.ref a))) (e1 : σ[1]? = some (some (.ref f))) (hf : H f = some (.lst xs)) (hx : PairsAt H xs ps) (few : ps.length ≤ 100) (T : ExcC K C) (hh : Held H a C) (h1 : PySem.W.kitOne K (.ref C) (.ref c1) = some b1)
    (q : ∀ p xs H', Kept None H H' → H p = none → H' p = some (.lst xs) → PairsAt H' xs (ps ++ [(w1, b1)]) → R (.ref p) H') : tOp (rCat K) (tVar 1) (tLst (tCons (tPair K w1 c1) tNil)) σ H R :=
  cat_read (l := [(w1, c1, b1)]) e0 e1 hf hx T hh (show 1 ≤ 100 by decide) few (fun r hr => by
    rcases List.mem_cons.mp hr with rfl | hr
    · exact h1
    · cases hr) q
end
def tTrV (K : PySem.W.Frag) (i : Nat) : TT := fun σ H Q => tVar i σ H fun x H' => ∃ k, TruV K x H' k ∧ Q k H'
def spWd (K : PySem.W.Frag) : Sp := fun vs H Q _ => ∃ (i : Nat) (a : Addr), vs = [.ref a] ∧ i < 11 ∧ Held H a (ca K i) ∧ ∀ p H', H p = none → Kept None H H' → H' p = some (.lst [.str (wd i)]) → Q (.ref p) H'
def pickT (ps : List (PySem.Str × Bool)) : List V := (ps.filter (·.2)).map fun p => V.str p.1
def allP (i : Nat) : List (PySem.Str × Bool) := [("text", i == 0), ("unsound", i == 1), ("program", i == 2), ("input", i == 3), ("place", i == 4), ("facts", i == 5), ("widths", i == 6), ("paper", i == 7), ("asked", i == 8), ("many", i == 9), ("line", i == 10)]
theorem all_pick : ∀ i, i < 11 → pickT (allP i) = [V.str (wd i)] := by
  intro i hi
  match i, hi with
  | 0, _ => rfl
  | 1, _ => rfl
  | 2, _ => rfl
  | 3, _ => rfl
  | 4, _ => rfl
  | 5, _ => rfl
  | 6, _ => rfl
  | 7, _ => rfl
  | 8, _ => rfl
  | 9, _ => rfl
  | 10, _ => rfl
  | n + 11, h => omega
theorem boot_isi : bootBuiltins "isinstance" = some (.builtin "isinstance") := by decide +kernel
/-- the facts of the globals -/
structure Names11 (K : PySem.W.Frag) (mg : PySem.Str → Option Value) : Prop where
  g : ∀ i, i < 11 → mg (nm i) = some (.ref (ca K i))
theorem take_filter {α : Type} (p : α → Bool) : ∀ (l : List α) (i : Nat) (x : α), l[i]? = some x → (l.take (i + 1)).filter p = (l.take i).filter p ++ if p x = true then [x] else []
  | [], i, x, h => by cases i <;> cases h
  | a :: l, 0, x, h => by
    obtain rfl : a = x := Option.some.inj h
    cases e : p a <;> simp [e]
  | a :: l, i + 1, x, h => by
    have ih := take_filter p l i x h
    cases e : p a <;> simp [List.take_succ_cons, List.filter_cons, e, ih]
section
variable {P : Program} {w : World} {K : PySem.W.Frag} {mg : PySem.Str → Option Value} {base : Heap} {f : Addr} {fd : FuncData}
theorem ok_wd (F : FnP K "_law_words" sWd f fd) (kk : Kits K) (g : Names11 K mg) (mi : mg "isinstance" = none) : FnOk P w K mg base CX0 1 f fd ["error"] (spWd K) := by
  refine F.ok (k := 0) scWd (fun vs H Q E h => ?_) (fun cdv A outer s H vs Q E hr h => ?_)
  · obtain ⟨i, a, rfl, _⟩ := h
    rfl
  · obtain ⟨i, a, rfl, hi, hh, q⟩ := h
    have g0 : mg "BadText" = _ := g.g 0 (by decide)
    have g1 : mg "Unsound" = _ := g.g 1 (by decide)
    have g2 : mg "BadProgram" = _ := g.g 2 (by decide)
    have g3 : mg "BadInput" = _ := g.g 3 (by decide)
    have g4 : mg "BadPlace" = _ := g.g 4 (by decide)
    have g5 : mg "BadFacts" = _ := g.g 5 (by decide)
    have g6 : mg "BadWidths" = _ := g.g 6 (by decide)
    have g7 : mg "BadPaper" = _ := g.g 7 (by decide)
    have g8 : mg "BadAsked" = _ := g.g 8 (by decide)
    have g9 : mg "TooMany" = _ := g.g 9 (by decide)
    have g10 : mg "BadLine" = _ := g.g 10 (by decide)
    refine ⟨_, PSs.nox (pss_cons (ps_set (i := 1) scWd.nd rfl (Or.inl rfl) (pe_lst (pa_cons (pe_tup (pa_cons pe_str (pa_cons (pe_callB call_isI (by rfl) mi boot_isi (pa_cons (pv 0) (pa_cons (pe_glob (v := .ref (ca K 0)) (by rfl) g0 rfl) pa_nil))) pa_nil))) (pa_cons (pe_tup (pa_cons pe_str (pa_cons (pe_callB call_isI (by rfl) mi boot_isi (pa_cons (pv 0) (pa_cons (pe_glob (v := .ref (ca K 1)) (by rfl) g1 rfl) pa_nil))) pa_nil))) pa_nil))))
      (pss_cons (ps_set (i := 1) scWd.nd rfl (Or.inl rfl) (pe_op op_catK (pv 1) (pe_lst (pa_cons (pe_tup (pa_cons pe_str (pa_cons (pe_callB call_isI (by rfl) mi boot_isi (pa_cons (pv 0) (pa_cons (pe_glob (v := .ref (ca K 2)) (by rfl) g2 rfl) pa_nil))) pa_nil))) (pa_cons (pe_tup (pa_cons pe_str (pa_cons (pe_callB call_isI (by rfl) mi boot_isi (pa_cons (pv 0) (pa_cons (pe_glob (v := .ref (ca K 3)) (by rfl) g3 rfl) pa_nil))) pa_nil))) pa_nil)))))
      (pss_cons (ps_set (i := 1) scWd.nd rfl (Or.inl rfl) (pe_op op_catK (pv 1) (pe_lst (pa_cons (pe_tup (pa_cons pe_str (pa_cons (pe_callB call_isI (by rfl) mi boot_isi (pa_cons (pv 0) (pa_cons (pe_glob (v := .ref (ca K 4)) (by rfl) g4 rfl) pa_nil))) pa_nil))) (pa_cons (pe_tup (pa_cons pe_str (pa_cons (pe_callB call_isI (by rfl) mi boot_isi (pa_cons (pv 0) (pa_cons (pe_glob (v := .ref (ca K 5)) (by rfl) g5 rfl) pa_nil))) pa_nil))) pa_nil)))))
      (pss_cons (ps_set (i := 1) scWd.nd rfl (Or.inl rfl) (pe_op op_catK (pv 1) (pe_lst (pa_cons (pe_tup (pa_cons pe_str (pa_cons (pe_callB call_isI (by rfl) mi boot_isi (pa_cons (pv 0) (pa_cons (pe_glob (v := .ref (ca K 6)) (by rfl) g6 rfl) pa_nil))) pa_nil))) (pa_cons (pe_tup (pa_cons pe_str (pa_cons (pe_callB call_isI (by rfl) mi boot_isi (pa_cons (pv 0) (pa_cons (pe_glob (v := .ref (ca K 7)) (by rfl) g7 rfl) pa_nil))) pa_nil))) pa_nil)))))
      (pss_cons (ps_set (i := 1) scWd.nd rfl (Or.inl rfl) (pe_op op_catK (pv 1) (pe_lst (pa_cons (pe_tup (pa_cons pe_str (pa_cons (pe_callB call_isI (by rfl) mi boot_isi (pa_cons (pv 0) (pa_cons (pe_glob (v := .ref (ca K 8)) (by rfl) g8 rfl) pa_nil))) pa_nil))) (pa_cons (pe_tup (pa_cons pe_str (pa_cons (pe_callB call_isI (by rfl) mi boot_isi (pa_cons (pv 0) (pa_cons (pe_glob (v := .ref (ca K 9)) (by rfl) g9 rfl) pa_nil))) pa_nil))) pa_nil)))))
      (pss_one (ps_ret (pe_lc (own := [("word", 2), ("is_so", 3)]) (g := gTup K 2 (gCons (gName 2) (gCons (gName 3) gNil))) (tt := tTrV K 3) (te := tVar 2) rfl scWd.nd
        (pi_list (pe_op op_catK (pv 1) (pe_lst (pa_cons (pe_tup (pa_cons pe_str (pa_cons (pe_callB call_isI (by rfl) mi boot_isi (pa_cons (pv 0) (pa_cons (pe_glob (v := .ref (ca K 10)) (by rfl) g10 rfl) pa_nil))) pa_nil))) pa_nil))))
        (blkOk_by (own := [("word", 2), ("is_so", 3)]) (N := ["error", "found", "word", "is_so"]) (sc := defScope sWd) (by decide +kernel))
        (fun _ _ _ _ _ => pg_tup rfl (pgs_cons (pg_name (i := 2) scWd.nd rfl (Or.inl rfl)) (pgs_cons (pg_name (i := 3) scWd.nd rfl (Or.inl rfl)) pgs_nil)))
        (fun _ _ _ _ _ => pts_one (by exact (pt_truth (pv 3) (by intro _; rfl)))) (fun _ _ _ _ _ => by exact (pv 2)))))))))), ?_⟩
    have kt := fun j (hj : j < 11) => kk.kit i hi j hj
    have T := kk.exc i hi
    dsimp only [tSeq, tAsg, gName, tRet]
    refine lst2 rfl T hh (kt 0 (by decide)) (kt 1 (by decide)) fun f1 x1 H1 k1 n1 z1 p1 => ?_
    refine cat2 rfl rfl z1 p1 (show 2 ≤ 100 by decide) T (hh.stay0 k1) (kt 2 (by decide)) (kt 3 (by decide)) fun f2 x2 H2 k2 n2 z2 p2 => ?_
    have k12 := k1.trans k2
    refine cat2 rfl rfl z2 p2 (show 4 ≤ 100 by decide) T (hh.stay0 k12) (kt 4 (by decide)) (kt 5 (by decide)) fun f3 x3 H3 k3 n3 z3 p3 => ?_
    have k13 := k12.trans k3
    refine cat2 rfl rfl z3 p3 (show 6 ≤ 100 by decide) T (hh.stay0 k13) (kt 6 (by decide)) (kt 7 (by decide)) fun f4 x4 H4 k4 n4 z4 p4 => ?_
    have k14 := k13.trans k4
    refine cat2 rfl rfl z4 p4 (show 8 ≤ 100 by decide) T (hh.stay0 k14) (kt 8 (by decide)) (kt 9 (by decide)) fun f5 x5 H5 k5 n5 z5 p5 => ?_
    have k15 := k14.trans k5
    refine cat1 rfl rfl z5 p5 (show 10 ≤ 100 by decide) T (hh.stay0 k15) (kt 10 (by decide)) fun f6 x6 H6 k6 n6 z6 p6 => ?_
    have k16 := k15.trans k6
    have p6 : PairsAt H6 x6 (allP i) := p6
    have hn := p6.len
    refine ⟨f6, rfl, ⟨_, .inl (.inl z6)⟩, fun D hD => ?_⟩
    have hl : (allP i).length = 11 := rfl
    refine lc_list (K := K) (a := f6) (xs := x6) (fun j H' => Kept None H6 H' ∧ H' D = some (.lst (pickT ((allP i).take j)))) ⟨Kept.refl.new hD, upd_same⟩ (fun j H' _ h => .inl (.inl (h.1.lst z6 (fun z => z)))) (fun j x H' hx h => ?_) (fun H' h => ?_)
    · obtain ⟨pr, hp, pa⟩ := p6.at_ hx
      obtain ⟨h1, h2⟩ := h
      obtain ⟨b, rfl, hb⟩ := pa.stay h1
      refine ⟨b, _, rfl, .inl (.inl hb), rfl, .str pr.1, _, rfl, .bl pr.2, _, rfl, rfl, rfl, .bl pr.2, rfl, pr.2, rfl, ?_⟩
      have tf := take_filter (fun p : PySem.Str × Bool => p.2) _ j pr hp
      cases e : pr.2 with
      | true =>
        rw [e, if_pos rfl] at tf
        refine iteT ⟨.str pr.1, rfl, _, h2, ?_, h1.new hD, ?_⟩
        · unfold pickT
          rw [List.length_map, sizeLine_eq]
          have := List.length_filter_le (fun p : PySem.Str × Bool => p.2) ((allP i).take j)
          have := List.length_take_le j (allP i)
          have := List.length_take (i := j) (l := allP i)
          omega
        · unfold pickT
          rw [upd_same, tf, List.map_append]
          rfl
      | false =>
        rw [e, if_neg Bool.false_ne_true, List.append_nil] at tf
        refine iteF ⟨h1, ?_⟩
        unfold pickT at h2 ⊢
        rw [tf]
        exact h2
    · rw [hn, List.take_length] at h
      rw [all_pick i hi] at h
      exact q D H' (k16.free hD) (k16.trans h.1) h.2
end
end K2

set_option Elab.async false
set_option linter.all false
set_option maxRecDepth 100000
set_option maxHeartbeats 2000000
namespace K2
open PySem PySem.Spec PyProof.Rows L2
/-! ### all of them made -/
def Flds (H : Hp) (a C : Addr) (fs : List (PySem.Str × V)) : Prop := ∃ d, H a = some (exo a C (some d)) ∧ H d = some (exd d fs)
theorem Flds.held {H : Hp} {a C : Addr} {fs : List (PySem.Str × V)} (h : Flds H a C fs) : Held H a C := by
  obtain ⟨d, h1, h2⟩ := h
  exact .inr ⟨d, fs, h1, h2⟩
theorem Flds.stay {H H1 : Hp} {a C : Addr} {fs : List (PySem.Str × V)} (h : Flds H a C fs) (k : Kept None H H1) : Flds H1 a C fs := by
  obtain ⟨d, h1, h2⟩ := h
  exact ⟨d, k a _ h1 (fun z => z), k d _ h2 (fun z => z)⟩
theorem ini_made {K : PySem.W.Frag} {C : Addr} {f1 f2 : PySem.Str} {x y : V} {H : Hp} {R : Addr → Hp → Prop} {E : XK} (hx : Small x) (hy : Small y) (q : ∀ a H', Kept None H H' → H a = none → Flds H' a C [(f2, y), (f1, x)] → R a H') :
    ∀ a, H a = none → spIni K C f1 f2 [.ref a, x, y] (upd H a (exo a C none)) (fun v H2 => v = .non ∧ R a H2) E := fun a ha => by
  refine ⟨a, x, y, rfl, upd_same, hx, hy, fun d hd ne => ⟨rfl, q a _ (fun b o e _ => ?_) ha ⟨d, ?_, upd_same⟩⟩⟩
  · rw [upd_ne ne] at hd
    have hb : b ≠ a := ne_of_none e ha
    have hb2 : b ≠ d := ne_of_none e hd
    rw [upd_ne hb2, upd_ne hb, upd_ne hb2, upd_ne hb, e]
    exact ko_refl o
  · rw [upd_ne (Ne.symm ne), upd_same]
/-- what the makers must say -/
structure MkC (K : PySem.W.Frag) (C fI : Addr) : Prop where
  t : OexC K C
  i : PySem.W.findIn K (.ref C) "__init__" = some (some (.ref fI))
  f : PySem.W.typeIn K (.ref fI) = some (.type "function")
structure ExC1 (K : PySem.W.Frag) (C : Addr) : Prop where
  x : PySem.W.excIn K C He.veBase "ValueError.__new__" = true
  k : PySem.W.keepIn K (.ref C) = true
/-- so far made -/
structure Ms (K : PySem.W.Frag) (H0 H : Hp) (es : List Addr) : Prop where
  k : Kept None H0 H
  h : ∀ i a, es[i]? = some a → Held H a (ca K i)
theorem Ms.stay {K : PySem.W.Frag} {H0 H H1 : Hp} {es : List Addr} (m : Ms K H0 H es) (k : Kept None H H1) : Ms K H0 H1 es := ⟨m.k.trans k, fun i a e => (m.h i a e).stay0 k⟩
theorem Ms.snoc {K : PySem.W.Frag} {H0 H H1 : Hp} {es : List Addr} (m : Ms K H0 H es) (k : Kept None H H1) {a : Addr} (h : Held H1 a (ca K es.length)) : Ms K H0 H1 (es ++ [a]) := ⟨m.k.trans k, fun i b e => by
  rcases Nat.lt_or_ge i es.length with hi | hi
  · rw [List.getElem?_append_left hi] at e
    exact (m.h i b e).stay0 k
  · rw [List.getElem?_append_right hi] at e
    cases hz : i - es.length with
    | zero =>
      rw [hz] at e
      obtain rfl : a = b := Option.some.inj e
      have ei : i = es.length := by omega
      rw [ei]
      exact h
    | succ n =>
      rw [hz] at e
      cases e⟩
theorem Ms.exo {K : PySem.W.Frag} {H0 H : Hp} {es : List Addr} (m : Ms K H0 H es) {a : Addr} (n : H a = none) : Ms K H0 (upd H a (ExO (.ref (ca K es.length)) a)) (es ++ [a]) := m.snoc (Kept.refl.new n) (.inl upd_same)
theorem Ms.new {K : PySem.W.Frag} {H0 H : Hp} {es : List Addr} (m : Ms K H0 H es) {p : Addr} {o : HO} (n : H p = none) : Ms K H0 (upd H p o) es := m.stay (Kept.refl.new n)
abbrev sMd : Stmt := top 18
theorem scMd : FnScope ["number", "place", "what", "some"] ["number", "place", "what"] (defScope sMd) := ⟨rfl, rfl, rfl, by decide +kernel, rfl, by decide +kernel, by decide +kernel⟩
def spMd (K : PySem.W.Frag) : Sp := fun vs H Q _ => ∃ x y z : V, vs = [x, y, z] ∧ Small x ∧ Small y ∧ Small z ∧
  ∀ (l : Addr) (es : List Addr) (H' : Hp), H l = none → Kept None H H' → H' l = some (.lst (es.map V.ref)) → es.length = 11 → (∀ i a, es[i]? = some a → Held H' a (ca K i)) →
    (∃ a0 a1 r, es = a0 :: a1 :: r ∧ Flds H' a0 (ca K 0) [("word", y), ("line", x)] ∧ Flds H' a1 (ca K 1) [("what", z), ("place", y)]) → Q (.ref l) H'
section
variable {P : Program} {w : World} {K : PySem.W.Frag} {mg : PySem.Str → Option Value} {base : Heap} {f fB fU : Addr} {fd fdB fdU : FuncData}
theorem ok_md (F : FnP K "_law_made" sMd f fd) (g : Names11 K mg) (mB : MkC K (ca K 0) fB) (mU : MkC K (ca K 1) fU) (ex : ∀ i, 2 ≤ i → i < 11 → ExC1 K (ca K i))
    (GB : FnOk P w K mg base CX0 1 fB fdB ["self", "line", "word"] (spIni K (ca K 0) "line" "word")) (GU : FnOk P w K mg base CX0 1 fU fdU ["self", "place", "what"] (spIni K (ca K 1) "place" "what")) (bB : Binds K fdB ["self", "line", "word"] []) (bU : Binds K fdU ["self", "place", "what"] []) :
    FnOk P w K mg base CX0 3 f fd ["number", "place", "what"] (spMd K) := by
  refine F.ok (k := 2) scMd (fun vs H Q E h => ?_) (fun cdv A outer s H vs Q E hr h => ?_)
  · obtain ⟨x, y, z, rfl, _⟩ := h
    rfl
  · obtain ⟨x, y, z, rfl, hx, hy, hz, q⟩ := h
    have g0 : mg "BadText" = _ := g.g 0 (by decide)
    have g1 : mg "Unsound" = _ := g.g 1 (by decide)
    have g2 : mg "BadProgram" = _ := g.g 2 (by decide)
    have g3 : mg "BadInput" = _ := g.g 3 (by decide)
    have g4 : mg "BadPlace" = _ := g.g 4 (by decide)
    have g5 : mg "BadFacts" = _ := g.g 5 (by decide)
    have g6 : mg "BadWidths" = _ := g.g 6 (by decide)
    have g7 : mg "BadPaper" = _ := g.g 7 (by decide)
    have g8 : mg "BadAsked" = _ := g.g 8 (by decide)
    have g9 : mg "TooMany" = _ := g.g 9 (by decide)
    have g10 : mg "BadLine" = _ := g.g 10 (by decide)
    have x2 := ex 2 (by decide) (by decide)
    have x3 := ex 3 (by decide) (by decide)
    have x4 := ex 4 (by decide) (by decide)
    have x5 := ex 5 (by decide) (by decide)
    have x6 := ex 6 (by decide) (by decide)
    have x7 := ex 7 (by decide) (by decide)
    have x8 := ex 8 (by decide) (by decide)
    have x9 := ex 9 (by decide) (by decide)
    have x10 := ex 10 (by decide) (by decide)
    refine ⟨_, PSs.nox (pss_cons (ps_set (i := 3) scMd.nd rfl (Or.inl rfl) (pe_lst (pa_cons (pe_mkV mB.t mB.i mB.f GB hr bB pass0 (by rfl) g0 (pa_cons (pv 0) (pa_cons (pv 1) pa_nil))) (pa_cons (pe_mkV mU.t mU.i mU.f GU hr bU pass0 (by rfl) g1 (pa_cons (pv 1) (pa_cons (pv 2) pa_nil)))
        (pa_cons (pe_exc1 PySem.F.excBase_ValueError x2.x g2 x2.k (by rfl) pe_str) (pa_cons (pe_exc1 PySem.F.excBase_ValueError x3.x g3 x3.k (by rfl) pe_str) (pa_cons (pe_exc1 PySem.F.excBase_ValueError x4.x g4 x4.k (by rfl) pe_str) pa_nil)))))))
      (pss_cons (ps_set (i := 3) scMd.nd rfl (Or.inl rfl) (pe_op op_catK (pv 3) (pe_lst (pa_cons (pe_exc1 PySem.F.excBase_ValueError x5.x g5 x5.k (by rfl) pe_str) (pa_cons (pe_exc1 PySem.F.excBase_ValueError x6.x g6 x6.k (by rfl) pe_str) (pa_cons (pe_exc1 PySem.F.excBase_ValueError x7.x g7 x7.k (by rfl) pe_str)
        (pa_cons (pe_exc1 PySem.F.excBase_ValueError x8.x g8 x8.k (by rfl) pe_str) (pa_cons (pe_exc1 PySem.F.excBase_ValueError x9.x g9 x9.k (by rfl) pe_str) pa_nil))))))))
      (pss_one (ps_ret (pe_op op_catK (pv 3) (pe_lst (pa_cons (pe_exc1 PySem.F.excBase_ValueError x10.x g10 x10.k (by rfl) pe_str) pa_nil))))))), ?_⟩
    dsimp only [tSeq, tAsg, gName, tRet]
    refine ⟨x, rfl, y, rfl, (show 2 ≤ 1000 by decide), ini_made hx hy fun a0 H1 k1 n0 F0 => ?_⟩
    have m0 : Ms K H H1 [a0] := Ms.snoc (es := []) ⟨Kept.refl, fun i a e => by cases i <;> cases e⟩ k1 F0.held
    refine ⟨y, rfl, z, rfl, (show 2 ≤ 1000 by decide), ini_made hy hz fun a1 H2 k2 n1 F1 => ?_⟩
    have m1 : Ms K H H2 [a0, a1] := m0.snoc k2 F1.held
    have F0 := F0.stay k2
    refine fun a2 n2 a3 n3 a4 n4 => ⟨(show 5 ≤ sizeLine by decide), fun s1 ns1 => ?_⟩
    have m2 : Ms K H _ [a0, a1, a2] := m1.exo n2
    have m3 : Ms K H _ [a0, a1, a2, a3] := m2.exo n3
    have m4 : Ms K H _ [a0, a1, a2, a3, a4] := m3.exo n4
    have m5 : Ms K H (upd (upd (upd (upd H2 a2 (ExO (.ref (ca K 2)) a2)) a3 (ExO (.ref (ca K 3)) a3)) a4 (ExO (.ref (ca K 4)) a4)) s1 (.lst [.ref a0, .ref a1, .ref a2, .ref a3, .ref a4])) [a0, a1, a2, a3, a4] := m4.new (o := .lst [.ref a0, .ref a1, .ref a2, .ref a3, .ref a4]) ns1
    have q2 : Kept None H2 (upd (upd (upd (upd H2 a2 (ExO (.ref (ca K 2)) a2)) a3 (ExO (.ref (ca K 3)) a3)) a4 (ExO (.ref (ca K 4)) a4)) s1 (.lst [.ref a0, .ref a1, .ref a2, .ref a3, .ref a4])) := (((Kept.refl.new n2).trans (Kept.refl.new n3)).trans (Kept.refl.new n4)).trans (Kept.refl.new (o := .lst [.ref a0, .ref a1, .ref a2, .ref a3, .ref a4]) ns1)
    have c1 : upd (upd (upd (upd H2 a2 (ExO (.ref (ca K 2)) a2)) a3 (ExO (.ref (ca K 3)) a3)) a4 (ExO (.ref (ca K 4)) a4)) s1 (.lst [.ref a0, .ref a1, .ref a2, .ref a3, .ref a4]) s1 = _ := upd_same
    have F0 := F0.stay q2
    have F1 := F1.stay q2
    generalize upd (upd (upd (upd H2 a2 (ExO (.ref (ca K 2)) a2)) a3 (ExO (.ref (ca K 3)) a3)) a4 (ExO (.ref (ca K 4)) a4)) s1 (.lst [.ref a0, .ref a1, .ref a2, .ref a3, .ref a4]) = H3 at m5 c1 F0 F1 ⊢
    refine ⟨.ref s1, rfl, fun a5 n5 a6 n6 a7 n7 a8 n8 a9 n9 => ⟨(show 5 ≤ sizeLine by decide), fun b1 nb1 => ?_⟩⟩
    have m6 : Ms K H _ [a0, a1, a2, a3, a4, a5] := m5.exo n5
    have m7 : Ms K H _ [a0, a1, a2, a3, a4, a5, a6] := m6.exo n6
    have m8 : Ms K H _ [a0, a1, a2, a3, a4, a5, a6, a7] := m7.exo n7
    have m9 : Ms K H _ [a0, a1, a2, a3, a4, a5, a6, a7, a8] := m8.exo n8
    have m10 : Ms K H _ [a0, a1, a2, a3, a4, a5, a6, a7, a8, a9] := m9.exo n9
    have m11 : Ms K H (upd (upd (upd (upd (upd (upd H3 a5 (ExO (.ref (ca K 5)) a5)) a6 (ExO (.ref (ca K 6)) a6)) a7 (ExO (.ref (ca K 7)) a7)) a8 (ExO (.ref (ca K 8)) a8)) a9 (ExO (.ref (ca K 9)) a9)) b1 (.lst [.ref a5, .ref a6, .ref a7, .ref a8, .ref a9])) [a0, a1, a2, a3, a4, a5, a6, a7, a8, a9] := m10.new (o := .lst [.ref a5, .ref a6, .ref a7, .ref a8, .ref a9]) nb1
    have q3 : Kept None H3 (upd (upd (upd (upd (upd (upd H3 a5 (ExO (.ref (ca K 5)) a5)) a6 (ExO (.ref (ca K 6)) a6)) a7 (ExO (.ref (ca K 7)) a7)) a8 (ExO (.ref (ca K 8)) a8)) a9 (ExO (.ref (ca K 9)) a9)) b1 (.lst [.ref a5, .ref a6, .ref a7, .ref a8, .ref a9])) := (((((Kept.refl.new (o := ExO (.ref (ca K 5)) a5) n5).trans (Kept.refl.new (o := ExO (.ref (ca K 6)) a6) n6)).trans (Kept.refl.new (o := ExO (.ref (ca K 7)) a7) n7)).trans (Kept.refl.new (o := ExO (.ref (ca K 8)) a8) n8)).trans (Kept.refl.new (o := ExO (.ref (ca K 9)) a9) n9)).trans (Kept.refl.new (o := .lst [.ref a5, .ref a6, .ref a7, .ref a8, .ref a9]) nb1)
    have c2 := q3.lst c1 (fun z => z)
    have c3 : upd (upd (upd (upd (upd (upd H3 a5 (ExO (.ref (ca K 5)) a5)) a6 (ExO (.ref (ca K 6)) a6)) a7 (ExO (.ref (ca K 7)) a7)) a8 (ExO (.ref (ca K 8)) a8)) a9 (ExO (.ref (ca K 9)) a9)) b1 (.lst [.ref a5, .ref a6, .ref a7, .ref a8, .ref a9]) b1 = _ := upd_same
    have F0 := F0.stay q3
    have F1 := F1.stay q3
    generalize upd (upd (upd (upd (upd (upd H3 a5 (ExO (.ref (ca K 5)) a5)) a6 (ExO (.ref (ca K 6)) a6)) a7 (ExO (.ref (ca K 7)) a7)) a8 (ExO (.ref (ca K 8)) a8)) a9 (ExO (.ref (ca K 9)) a9)) b1 (.lst [.ref a5, .ref a6, .ref a7, .ref a8, .ref a9]) = H4 at m11 c2 c3 F0 F1 ⊢
    refine ⟨s1, b1, _, _, rfl, rfl, .inl (.inl c2), c3, (show 10 ≤ sizeLine by decide), fun s2 ns2 => ?_⟩
    have m12 : Ms K H (upd H4 s2 (.lst ([.ref a0, .ref a1, .ref a2, .ref a3, .ref a4] ++ [.ref a5, .ref a6, .ref a7, .ref a8, .ref a9]))) [a0, a1, a2, a3, a4, a5, a6, a7, a8, a9] := m11.new (o := .lst ([.ref a0, .ref a1, .ref a2, .ref a3, .ref a4] ++ [.ref a5, .ref a6, .ref a7, .ref a8, .ref a9])) ns2
    have c4 : upd H4 s2 (.lst ([.ref a0, .ref a1, .ref a2, .ref a3, .ref a4] ++ [.ref a5, .ref a6, .ref a7, .ref a8, .ref a9])) s2 = _ := upd_same
    have q4 : Kept None H4 (upd H4 s2 (.lst ([.ref a0, .ref a1, .ref a2, .ref a3, .ref a4] ++ [.ref a5, .ref a6, .ref a7, .ref a8, .ref a9]))) := Kept.refl.new ns2
    have F0 := F0.stay q4
    have F1 := F1.stay q4
    generalize upd H4 s2 (.lst ([.ref a0, .ref a1, .ref a2, .ref a3, .ref a4] ++ [.ref a5, .ref a6, .ref a7, .ref a8, .ref a9])) = H5 at m12 c4 F0 F1 ⊢
    refine ⟨.ref s2, rfl, fun a10 n10 => ⟨(show 1 ≤ sizeLine by decide), fun b2 nb2 => ?_⟩⟩
    have m13 : Ms K H _ [a0, a1, a2, a3, a4, a5, a6, a7, a8, a9, a10] := m12.exo n10
    have m14 : Ms K H (upd (upd H5 a10 (ExO (.ref (ca K 10)) a10)) b2 (.lst [.ref a10])) [a0, a1, a2, a3, a4, a5, a6, a7, a8, a9, a10] := m13.new (o := .lst [.ref a10]) nb2
    have q5 : Kept None H5 (upd (upd H5 a10 (ExO (.ref (ca K 10)) a10)) b2 (.lst [.ref a10])) := (Kept.refl.new (o := ExO (.ref (ca K 10)) a10) n10).trans (Kept.refl.new (o := .lst [.ref a10]) nb2)
    have c5 := q5.lst c4 (fun z => z)
    have c6 : upd (upd H5 a10 (ExO (.ref (ca K 10)) a10)) b2 (.lst [.ref a10]) b2 = _ := upd_same
    have F0 := F0.stay q5
    have F1 := F1.stay q5
    generalize upd (upd H5 a10 (ExO (.ref (ca K 10)) a10)) b2 (.lst [.ref a10]) = H6 at m14 c5 c6 F0 F1 ⊢
    refine ⟨s2, b2, _, _, rfl, rfl, .inl (.inl c5), c6, (show 11 ≤ sizeLine by decide), fun l nl => ?_⟩
    have m15 := m14.new (o := .lst (([.ref a0, .ref a1, .ref a2, .ref a3, .ref a4] ++ [.ref a5, .ref a6, .ref a7, .ref a8, .ref a9]) ++ [.ref a10])) nl
    have q6 : Kept None H6 (upd H6 l (.lst (([.ref a0, .ref a1, .ref a2, .ref a3, .ref a4] ++ [.ref a5, .ref a6, .ref a7, .ref a8, .ref a9]) ++ [.ref a10]))) := Kept.refl.new nl
    exact q l [a0, a1, a2, a3, a4, a5, a6, a7, a8, a9, a10] _ (m14.k.free nl) m15.k upd_same rfl m15.h ⟨a0, a1, _, rfl, F0.stay q6, F1.stay q6⟩
end
end K2

set_option Elab.async false
set_option linter.all false
set_option maxRecDepth 100000
set_option maxHeartbeats 2000000
namespace K2
open PySem PySem.Spec PyProof.Rows L2
/-! ### raised and caught -/
theorem short_int {i : Int} (h0 : 0 ≤ i) (h1 : i < 1000000000) : (PyData.int i).leavesShort 2000 = true := by
  have e := int_text_len_1921 (small_log h0 h1)
  exact decide_eq_true (Nat.le_trans (show (PyData.shown (.int i)).length ≤ 1921 from e) (by decide))
theorem show_int {i : Int} (h0 : 0 ≤ i) (h1 : i < 1000000000) : (PyData.int i).showable = true := decide_eq_true (small_log h0 h1)
def dPairs (n p : Int) : PyData := .list [.tuple [.int n, .int p], .tuple [.int p, .int n]]
theorem dPairs_ok {n p : Int} (n0 : 0 ≤ n) (n1 : n < 1000000000) (p0 : 0 ≤ p) (p1 : p < 1000000000) : (dPairs n p).showable = true ∧ (dPairs n p).shown.length ≤ sizeLine := by
  have a := short_int n0 n1
  have b := short_int p0 p1
  have c := show_int n0 n1
  have d := show_int p0 p1
  constructor
  · simp [dPairs, PyData.showable, PyData.showableAll] at c d ⊢
    first | exact ⟨⟨c, d⟩, d, c⟩ | exact ⟨c, d⟩
  · have e := PyData.shown_le_bulk 2000 (by decide) (dPairs n p) (by simp [dPairs, PyData.leavesShort, PyData.leavesShortAll] at a b ⊢; first | exact ⟨⟨a, b⟩, b, a⟩ | exact ⟨a, b⟩)
    have f : (dPairs n p).bulk = 6 := rfl
    rw [f] at e
    rw [sizeLine_eq]
    omega
theorem lk_line (x y : V) : ([("word", y), ("line", x)] : List (PySem.Str × V)).lookup ("line" : PySem.Str) = some x := by rw [lookup_put, if_neg (by decide +kernel), lookup_put, if_pos rfl]
theorem lk_word (x y : V) : ([("word", y), ("line", x)] : List (PySem.Str × V)).lookup ("word" : PySem.Str) = some y := by rw [lookup_put, if_pos rfl]
theorem lk_place (x y : V) : ([("what", y), ("place", x)] : List (PySem.Str × V)).lookup ("place" : PySem.Str) = some x := by rw [lookup_put, if_neg (by decide +kernel), lookup_put, if_pos rfl]
theorem lk_what (x y : V) : ([("what", y), ("place", x)] : List (PySem.Str × V)).lookup ("what" : PySem.Str) = some y := by rw [lookup_put, if_pos rfl]
theorem dp2 {K : PySem.W.Frag} {H : Hp} {l a b : Addr} {n p : Int} (h : H l = some (.lst [.ref a, .ref b])) (ha : H a = some (.tup [.int n, .int p])) (hb : H b = some (.tup [.int p, .int n])) : Dp K H (.ref l) (dPairs n p) :=
  .lst (SqL.of h) (.cons (.tup (SqT.of ha) (.cons (.int n) (.cons (.int p) .nil))) (.cons (.tup (SqT.of hb) (.cons (.int p) (.cons (.int n) .nil))) .nil))
def spCa : Sp := fun vs H Q _ => ∃ n p : Int, vs = [.int n, .int p] ∧ 0 ≤ n ∧ n < 1000000000 ∧ 0 ≤ p ∧ p < 1000000000 ∧ ∀ H', Kept None H H' → Q (.bl true) H'
abbrev sCa : Stmt := top 19
theorem scCa : FnScope ["number", "place", "found", "e"] ["number", "place"] (defScope sCa) := ⟨rfl, rfl, rfl, by decide +kernel, rfl, by decide +kernel, by decide +kernel⟩
/-- raise C(x, y), C of the two -/
theorem made_gone {K : PySem.W.Frag} {C : Addr} {f1 f2 : PySem.Str} {x y : V} {H : Hp} {R : Addr → Hp → Addr → List (PySem.Str × V) → Prop} {E : XK} (hx : Small x) (hy : Small y) (q : ∀ a d H2 H', H' = upd (del H2 a) d (.xd [(f2, y), (f1, x)]) → Kept None H H' → H' d = some (.xd [(f2, y), (f1, x)]) → R a H2 d [(f2, y), (f1, x)]) :
    ∀ a, H a = none → spIni K C f1 f2 [.ref a, x, y] (upd H a (exo a C none)) (fun v H2 => v = .non ∧ ∃ (d : Addr) (fs : List (PySem.Str × V)), H2 a = some (exo a C (some d)) ∧ H2 d = some (exd d fs) ∧ H d = none ∧ R a H2 d fs) E := fun a ha => by
  refine ⟨a, x, y, rfl, upd_same, hx, hy, fun d hd ne => ⟨rfl, d, [(f2, y), (f1, x)], ?_, upd_same, ?_, q a d _ _ rfl (fun b o e _ => ?_) upd_same⟩⟩
  · rw [upd_ne (Ne.symm ne), upd_same]
  · rw [upd_ne ne] at hd
    exact hd
  · rw [upd_ne ne] at hd
    have hb : b ≠ a := ne_of_none e ha
    have hb2 : b ≠ d := ne_of_none e hd
    rw [upd_ne hb2, del_ne hb, upd_ne hb2, upd_ne hb, upd_ne hb2, upd_ne hb, e]
    exact ko_refl o
def tCatch (K : PySem.W.Frag) (C : Addr) (f1 f2 : PySem.Str) : Addr → Value → Option Addr → TS := fun a cls d => tSeq (tDrop (tBM K "list" rAppend (tVar 2) (tCons (tTup (tCons (tXf a cls d C f1 (tVar 3)) (tCons (tXf a cls d C f2 (tVar 3)) tNil))) tNil))) tNext
section
variable {P : Program} {w : World} {K : PySem.W.Frag} {mg : PySem.Str → Option Value} {base : Heap} {f fB fU B : Addr} {fd fdB fdU : FuncData}
theorem ok_ca (F : FnP K "_law_is_caught" sCa f fd) (g : Names11 K mg) (gE : mg "BitError" = some (.ref B)) (mr : mg "repr" = none) (mB : MkC K (ca K 0) fB) (mU : MkC K (ca K 1) fU) (xB : XfC K (ca K 0)) (xU : XfC K (ca K 1))
    (a1 : PySem.W.findIn K (.ref (ca K 0)) "line" = some none) (a2 : PySem.W.findIn K (.ref (ca K 0)) "word" = some none) (a3 : PySem.W.findIn K (.ref (ca K 1)) "place" = some none) (a4 : PySem.W.findIn K (.ref (ca K 1)) "what" = some none)
    (e1 : PySem.W.exmOne K (.ref (ca K 0)) (.ref (ca K 0)) = some true) (e2 : PySem.W.exmOne K (.ref (ca K 1)) (.ref B) = some true)
    (GB : FnOk P w K mg base CX0 1 fB fdB ["self", "line", "word"] (spIni K (ca K 0) "line" "word")) (GU : FnOk P w K mg base CX0 1 fU fdU ["self", "place", "what"] (spIni K (ca K 1) "place" "what")) (bB : Binds K fdB ["self", "line", "word"] []) (bU : Binds K fdU ["self", "place", "what"] []) :
    FnG P w K mg base 3 f fd ["number", "place"] spCa := by
  refine fnG_of (k := 2) F scCa (fun vs H Q E h => ?_) (fun cdv A outer s H vs Q E gd hr h => ?_)
  · obtain ⟨n, p, rfl, _⟩ := h
    rfl
  · obtain ⟨n, p, rfl, n0, n1, p0, p1, q⟩ := h
    have g0 : mg "BadText" = _ := g.g 0 (by decide)
    have g1 : mg "Unsound" = _ := g.g 1 (by decide)
    refine ⟨_, pss_cons (ps_set (i := 2) scCa.nd rfl (Or.inl rfl) (pe_lst pa_nil))
      (pss_cons (ps_try_as (i := 3) (ts := tCatch K (ca K 0) "line" "word") rfl rfl scCa.nd rfl rfl ⟨rfl, by decide, .inl g0⟩ L2.takes0 (fun W pn xe tk _ => pss_one (ps_raise rfl tk (pmk_oex mB.t mB.i mB.f GB hr bB .nil pass0 (by rfl) g0 (pa_cons (pv 0) (pa_cons (pv 1) pa_nil)))))
        (fun a oe cls d pn hz hf => by exact (pss_one (ps_expr (pe_bm PySem.F.plainAttrs_list PySem.F.slot_list_append PySem.F.type_list_append mt_append (pv 2) (pa_cons (pe_tup (pa_cons (pe_xf xB a1 hz hf (pv 3)) (pa_cons (pe_xf xB a2 hz hf (pv 3)) pa_nil))) pa_nil))))))
      (pss_cons (ps_try_as (i := 3) (ts := tCatch K (ca K 1) "place" "what") rfl rfl scCa.nd rfl rfl ⟨rfl, by decide, .inl gE⟩ L2.takes0 (fun W pn xe tk _ => pss_one (ps_raise rfl tk (pmk_oex mU.t mU.i mU.f GU hr bU .nil pass0 (by rfl) g1 (pa_cons (pv 1) (pa_cons (pv 0) pa_nil)))))
        (fun a oe cls d pn hz hf => by exact (pss_one (ps_expr (pe_bm PySem.F.plainAttrs_list PySem.F.slot_list_append PySem.F.type_list_append mt_append (pv 2) (pa_cons (pe_tup (pa_cons (pe_xf xU a3 hz hf (pv 3)) (pa_cons (pe_xf xU a4 hz hf (pv 3)) pa_nil))) pa_nil))))))
      (pss_one (ps_ret (pe_cmpR op_eq (pe_callB (call_reprL gd hr) (by rfl) mr (by decide +kernel) (pa_cons (pv 2) pa_nil)) (pe_callB (call_reprL gd hr) (by rfl) mr (by decide +kernel) (pa_cons (pe_lst (pa_cons (pe_tup (pa_cons (pv 0) (pa_cons (pv 1) pa_nil))) (pa_cons (pe_tup (pa_cons (pv 1) (pa_cons (pv 0) pa_nil))) pa_nil))) pa_nil)) (nomark _)))))), ?_⟩
    have sn : Small (.int n) := .inr ⟨n, rfl, n0, n1⟩
    have sp : Small (.int p) := .inr ⟨p, rfl, p0, p1⟩
    obtain ⟨ok1, ok2⟩ := dPairs_ok n0 n1 p0 p1
    dsimp only [tSeq, tAsg, gName, tRet]
    refine ⟨(show 0 ≤ sizeLine by decide), fun l nl => ?_⟩
    have kA : Kept None H (upd H l (.lst [])) := Kept.refl.new nl
    have lA : upd H l (.lst []) l = some (.lst []) := upd_same
    generalize upd H l (.lst []) = H0 at kA lA ⊢
    refine ⟨.int n, rfl, .int p, rfl, (show 2 ≤ 1000 by decide), made_gone sn sp fun c1 d1 G1 H1 eH k1 x1 => ?_⟩
    rw [← eH]
    clear eH
    refine ⟨true, e1, fun _ a ha => ?_, fun z => nomatch z⟩
    have kB := kA.trans k1
    have lB := k1.lst lA (fun z => z)
    refine ⟨.ref l, rfl, .inl ⟨rfl, _, SqL.of lB⟩, .ref a, rfl, rfl, rfl, d1, _, .int n, rfl, x1, lk_line _ _, .ref a, rfl, rfl, rfl, d1, _, .int p, rfl, x1, lk_word _ _, (show 2 ≤ sizeLine by decide), fun t1 nt1 => ⟨l, [], .ref t1, rfl, rfl, ?_, (show 0 < sizeLine by decide), ?_⟩⟩
    · rw [upd_ne (ne_of_none lB nt1)]
      exact lB
    have tl : t1 ≠ l := fun z => by
      rw [z, lB] at nt1
      cases nt1
    have kC : Kept None H (upd (upd H1 t1 (.tup [.int n, .int p])) l (.lst ([] ++ [.ref t1]))) := (kB.new (kB.free nt1)).new nl
    have lC : upd (upd H1 t1 (.tup [.int n, .int p])) l (.lst ([] ++ [.ref t1])) l = some (.lst [.ref t1]) := upd_same
    have tC1 : upd (upd H1 t1 (.tup [.int n, .int p])) l (.lst ([] ++ [.ref t1])) t1 = some (.tup [.int n, .int p]) := by rw [upd_ne tl, upd_same]
    generalize upd (upd H1 t1 (.tup [.int n, .int p])) l (.lst ([] ++ [.ref t1])) = H2 at kC lC tC1 ⊢
    refine ⟨.int p, rfl, .int n, rfl, (show 2 ≤ 1000 by decide), made_gone sp sn fun c3 d2 G3 H3 eH k3 x3 => ?_⟩
    rw [← eH]
    clear eH
    refine ⟨true, e2, fun _ b hb => ?_, fun z => nomatch z⟩
    have kD := kC.trans k3
    have lD := k3.lst lC (fun z => z)
    have tD := k3.tup tC1 (fun z => z)
    refine ⟨.ref l, rfl, .inl ⟨rfl, _, SqL.of lD⟩, .ref b, rfl, rfl, rfl, d2, _, .int p, rfl, x3, lk_place _ _, .ref b, rfl, rfl, rfl, d2, _, .int n, rfl, x3, lk_what _ _, (show 2 ≤ sizeLine by decide), fun t2 nt2 => ⟨l, [.ref t1], .ref t2, rfl, rfl, ?_, (show 1 < sizeLine by decide), ?_⟩⟩
    · rw [upd_ne (ne_of_none lD nt2)]
      exact lD
    have t2l : t2 ≠ l := fun z => by
      rw [z, lD] at nt2
      cases nt2
    have t12 : t1 ≠ t2 := fun z => by
      rw [← z, tD] at nt2
      cases nt2
    have kE : Kept None H (upd (upd H3 t2 (.tup [.int p, .int n])) l (.lst ([.ref t1] ++ [.ref t2]))) := (kD.new (kD.free nt2)).new nl
    have lE : upd (upd H3 t2 (.tup [.int p, .int n])) l (.lst ([.ref t1] ++ [.ref t2])) l = some (.lst [.ref t1, .ref t2]) := upd_same
    have tE2 : upd (upd H3 t2 (.tup [.int p, .int n])) l (.lst ([.ref t1] ++ [.ref t2])) t2 = some (.tup [.int p, .int n]) := by rw [upd_ne t2l, upd_same]
    have tE1 : upd (upd H3 t2 (.tup [.int p, .int n])) l (.lst ([.ref t1] ++ [.ref t2])) t1 = some (.tup [.int n, .int p]) := by rw [upd_ne tl, upd_ne t12]; exact tD
    generalize upd (upd H3 t2 (.tup [.int p, .int n])) l (.lst ([.ref t1] ++ [.ref t2])) = H4 at kE lE tE1 tE2 ⊢
    refine ⟨.ref l, rfl, l, dPairs n p, rfl, dp2 lE tE1 tE2, ok1, rfl, (show 2 ≤ 100 by decide), ok2, ?_⟩
    refine ⟨.int n, rfl, .int p, rfl, (show 2 ≤ sizeLine by decide), fun u1 nu1 => ⟨.int p, rfl, .int n, rfl, (show 2 ≤ sizeLine by decide), fun u2 nu2 => ⟨(show 2 ≤ sizeLine by decide), fun m nm => ?_⟩⟩⟩
    have u12 : u1 ≠ u2 := fun z => by
      rw [← z, upd_same] at nu2
      cases nu2
    have u1m : u1 ≠ m := fun z => by
      rw [← z, upd_ne u12, upd_same] at nm
      cases nm
    have u2m : u2 ≠ m := fun z => by
      rw [← z, upd_same] at nm
      cases nm
    refine ⟨m, dPairs n p, rfl, dp2 upd_same (by rw [upd_ne u1m, upd_ne u12, upd_same]) (by rw [upd_ne u2m, upd_same]), ok1, rfl, (show 2 ≤ 100 by decide), ok2, rfl, ?_⟩
    rw [decide_eq_true rfl]
    have kF := kE.trans (((Kept.refl.new nu1).trans (Kept.refl.new nu2)).trans (Kept.refl.new (o := .lst [.ref u1, .ref u2]) nm))
    exact q _ kF
end
end K2

set_option Elab.async false
set_option linter.all false
set_option maxRecDepth 100000
set_option maxHeartbeats 2000000
namespace K2
open PySem PySem.Spec PyProof.Rows L2
/-! ### the law -/
abbrev sLaw : Stmt := top 20
theorem scLaw : FnScope ["script", "draw", "due", "k", "number", "place", "what", "some", "one", "word"] ["script"] (defScope sLaw) := ⟨rfl, rfl, rfl, by decide +kernel, rfl, by decide +kernel, by decide +kernel⟩
structure Fn1 (P : Program) (w : World) (K : PySem.W.Frag) (mg : PySem.Str → Option Value) (base : Heap) (k : Nat) (x : PySem.Str) (ps : List PySem.Str) (sp : Sp) where
  f : Addr
  fd : FuncData
  ok : FnOk P w K mg base CX0 k f fd ps sp
  b : Binds K fd ps []
  k : PySem.W.keepIn K (.ref f) = true
  g : mg x = some (.ref f)
structure FnG1 (P : Program) (w : World) (K : PySem.W.Frag) (mg : PySem.Str → Option Value) (base : Heap) (k : Nat) (x : PySem.Str) (ps : List PySem.Str) (sp : Sp) where
  f : Addr
  fd : FuncData
  ok : FnG P w K mg base k f fd ps sp
  b : Binds K fd ps []
  k : PySem.W.keepIn K (.ref f) = true
  g : mg x = some (.ref f)
def dueV : List V := [.str "text", .str "unsound", .str "program", .str "input", .str "place", .str "facts", .str "widths", .str "paper", .str "asked", .str "many", .str "line"]
theorem due_at : ∀ (j : Nat) (y : V), dueV[j]? = some y → j < 11 ∧ y = .str (wd j)
  | 0, y, h => ⟨by decide, (Option.some.inj h).symm⟩
  | 1, y, h => ⟨by decide, (Option.some.inj h).symm⟩
  | 2, y, h => ⟨by decide, (Option.some.inj h).symm⟩
  | 3, y, h => ⟨by decide, (Option.some.inj h).symm⟩
  | 4, y, h => ⟨by decide, (Option.some.inj h).symm⟩
  | 5, y, h => ⟨by decide, (Option.some.inj h).symm⟩
  | 6, y, h => ⟨by decide, (Option.some.inj h).symm⟩
  | 7, y, h => ⟨by decide, (Option.some.inj h).symm⟩
  | 8, y, h => ⟨by decide, (Option.some.inj h).symm⟩
  | 9, y, h => ⟨by decide, (Option.some.inj h).symm⟩
  | 10, y, h => ⟨by decide, (Option.some.inj h).symm⟩
  | n + 11, y, h => by cases h
/-- the drawn word -/
def What (x : V) : Prop := ∃ w : PySem.Str, x = .str w ∧ w.length ≤ 4 ∧ (PyData.str w).leavesShort 2000 = true ∧ SeqAt.shaped (.str w) = true
theorem what_of {r : Int} (h0 : 0 ≤ r) (h1 : r < 4) : ∃ x, atI [V.str "name", .str "long", .str "", .str "x"] r = some x ∧ What x := by
  obtain ⟨j, rfl⟩ : ∃ j : Nat, r = (j : Int) := ⟨r.toNat, by omega⟩
  have hj : j < 4 := by omega
  match j, hj with
  | 0, _ => exact ⟨_, atI_nat (j := 0) rfl, _, rfl, by decide +kernel, by decide +kernel, by decide +kernel⟩
  | 1, _ => exact ⟨_, atI_nat (j := 1) rfl, _, rfl, by decide +kernel, by decide +kernel, by decide +kernel⟩
  | 2, _ => exact ⟨_, atI_nat (j := 2) rfl, _, rfl, by decide +kernel, by decide +kernel, by decide +kernel⟩
  | 3, _ => exact ⟨_, atI_nat (j := 3) rfl, _, rfl, by decide +kernel, by decide +kernel, by decide +kernel⟩
  | n + 4, h => omega
def dRow (n p : Int) (w : PySem.Str) : PyData := .list [.int n, .int p, .int p, .str w]
theorem dRow_ok {n p : Int} {w : PySem.Str} (n0 : 0 ≤ n) (n1 : n < 1000000000) (p0 : 0 ≤ p) (p1 : p < 1000000000) (hw : w.length ≤ 4) (hs : (PyData.str w).leavesShort 2000 = true) : (dRow n p w).showable = true ∧ (dRow n p w).shown.length ≤ sizeLine := by
  have a := short_int n0 n1
  have b := short_int p0 p1
  have c := show_int n0 n1
  have d := show_int p0 p1
  constructor
  · simp only [dRow, PyData.showable, PyData.showableAll] at c d ⊢
    rw [c, d]
    rfl
  · have e := PyData.shown_le_bulk 2000 (by decide) (dRow n p w) (by
      simp only [dRow, PyData.leavesShort, PyData.leavesShortAll] at a b hs ⊢
      rw [a, b, hs]
      rfl)
    have f : (dRow n p w).bulk = 0 + 1 + (0 + 1 + (0 + 1 + (w.length + 1 + 0))) := rfl
    rw [f] at e
    rw [sizeLine_eq]
    omega
theorem dp_row {K : PySem.W.Frag} {H : Hp} {l : Addr} {n p : Int} {w : PySem.Str} (h : H l = some (.lst [.int n, .int p, .int p, .str w])) : Dp K H (.ref l) (dRow n p w) := .lst (SqL.of h) (.cons (.int n) (.cons (.int p) (.cons (.int p) (.cons (.str w) .nil))))
theorem wd_ok : ∀ j, j < 11 → SeqAt.shaped (.list [.str (wd j)]) = true := by decide +kernel
/-- the draw and the words that are due -/
structure S2 (H : Hp) (d c l : Addr) (ns : List Int) (n : Nat) : Prop where
  dr : Dr H d c ns n
  du : H l = some (.lst dueV)
theorem S2.stay {H H1 : Hp} {d c l : Addr} {ns : List Int} {n : Nat} (s : S2 H d c l ns n) (k : Kept None H H1) : S2 H1 d c l ns n := ⟨s.dr.stay k, k.lst s.du (fun z => z)⟩
theorem S2.step {H H1 : Hp} {d c l : Addr} {ns : List Int} {n m : Nat} (s : S2 H d c l ns n) (k : Kept (At d) H H1) (D : Dr H1 d c ns m) : S2 H1 d c l ns m := ⟨D, k.lst s.du fun z => by
  obtain ⟨_, _, _, y, _⟩ := s.dr.at_
  have e := s.du
  rw [z, y] at e
  cases e⟩
def spLaw (K : PySem.W.Frag) : Sp := fun vs H Q _ => ∃ (a : Addr) (ns : List Int), vs = [.ref a] ∧ SqL K H a (ns.map V.int) ∧ ns.length ≤ 63 ∧ ∀ H', Q (.bl true) H'
section
variable {P : Program} {w : World} {K : PySem.W.Frag} {mg : PySem.Str → Option Value} {base : Heap} {f B : Addr} {fd : FuncData}
theorem ok_law (F : FnP K "law" sLaw f fd) (Bg : Fn1 P w K mg base 1 "_law_begin" ["script"] (spBegin K)) (N : Fn1 P w K mg base 2 "_law_next" ["draw", "many"] spNext) (Wd : Fn1 P w K mg base 1 "_law_words" ["error"] (spWd K)) (Md : Fn1 P w K mg base 3 "_law_made" ["number", "place", "what"] (spMd K)) (Ca : FnG1 P w K mg base 3 "_law_is_caught" ["number", "place"] spCa)
    (kk : Kits K) (gE : mg "BitError" = some (.ref B)) (kB : ∀ i, i < 11 → PySem.W.kitOne K (.ref (ca K i)) (.ref B) = some true) (kV : ∀ i, i < 11 → PySem.W.kitOne K (.ref (ca K i)) (.type "ValueError") = some true) (xB : XfC K (ca K 0)) (xU : XfC K (ca K 1))
    (a1' : PySem.W.findIn K (.ref (ca K 0)) "line" = some none) (a2' : PySem.W.findIn K (.ref (ca K 0)) "word" = some none) (a3' : PySem.W.findIn K (.ref (ca K 1)) "place" = some none) (a4' : PySem.W.findIn K (.ref (ca K 1)) "what" = some none)
    (m1 : mg "range" = none) (m2 : mg "min" = none) (m3 : mg "len" = none) (m4 : mg "isinstance" = none) (m5 : mg "zip" = none) (m6 : mg "repr" = none) (m7 : mg "ValueError" = none) : FnG P w K mg base 4 f fd ["script"] (spLaw K) := by
  refine fnG_of (k := 3) F scLaw (fun vs H Q E h => ?_) (fun cdv A outer s H vs Q E gd hr h => ?_)
  · obtain ⟨a, ns, rfl, _⟩ := h
    rfl
  · obtain ⟨a, ns, rfl, hS, hl, q⟩ := h
    have hr1 := hr.mono (show 1 ≤ 3 by decide)
    have hr2 := hr.mono (show 2 ≤ 3 by decide)
    have hsz := sizeLine_eq
    refine ⟨_, PSs.nox (pss_cons (ps_set (i := 1) scLaw.nd rfl (Or.inl rfl) (pe_call Bg.ok hr1 (by rfl) Bg.g Bg.k Bg.b .nil pass0 (pa_cons (pv 0) pa_nil)))
      (pss_cons (ps_set (i := 2) scLaw.nd rfl (Or.inl rfl) (pe_lst (pa_cons pe_str (pa_cons pe_str (pa_cons pe_str (pa_cons pe_str (pa_cons pe_str (pa_cons pe_str (pa_cons pe_str (pa_cons pe_str (pa_cons pe_str (pa_cons pe_str (pa_cons pe_str pa_nil)))))))))))))
      (pss_cons (ps_for PassesOwn.never rfl (pi_range1 rfl m1 (pa_cons (pe_op op_add (pe_callB (call_min2 rfl) (by rfl) m2 (by decide +kernel) (pa_cons pe_int (pa_cons (pe_callB call_len_seq (by rfl) m3 PySem.boot_len (pa_cons (pv 0) pa_nil)) pa_nil))) pe_int) pa_nil)) (pg_name (i := 3) scLaw.nd rfl (Or.inl rfl))
        (pss_cons (ps_par (i := 4) (j := 5) (by rfl) scLaw.nd rfl rfl (by decide) rfl rfl (pa_cons (pe_call N.ok hr2 (by rfl) N.g N.k N.b .nil pass0 (pa_cons (pv 1) (pa_cons (pe_op op_pow pe_int pe_int) pa_nil))) (pa_cons (pe_call N.ok hr2 (by rfl) N.g N.k N.b .nil pass0 (pa_cons (pv 1) (pa_cons pe_int pa_nil))) pa_nil)) (by rfl))
        (pss_cons (ps_set (i := 6) scLaw.nd rfl (Or.inl rfl) (pe_ix ix_list (pe_lst (pa_cons pe_str (pa_cons pe_str (pa_cons pe_str (pa_cons pe_str pa_nil))))) (pe_call N.ok hr2 (by rfl) N.g N.k N.b .nil pass0 (pa_cons (pv 1) (pa_cons pe_int pa_nil))) (fun _ _ => rfl)))
        (pss_cons (ps_set (i := 7) scLaw.nd rfl (Or.inl rfl) (pe_call Md.ok hr (by rfl) Md.g Md.k Md.b .nil pass0 (pa_cons (pv 4) (pa_cons (pv 5) (pa_cons (pv 6) pa_nil)))))
        (pss_cons (ps_for PassesOwn.never rfl (pi_zip (by rfl) m5 (pa_cons (pv 7) (pa_cons (pv 2) pa_nil))) (pg_tup rfl (pgs_cons (pg_name (i := 8) scLaw.nd rfl (Or.inl rfl)) (pgs_cons (pg_name (i := 9) scLaw.nd rfl (Or.inl rfl)) pgs_nil)))
            (pss_one (ps_if (PW.pt (pw_or (pt_cmpR (op_neD hr.units) (pe_call Wd.ok hr1 (by rfl) Wd.g Wd.k Wd.b .nil pass0 (pa_cons (pv 8) pa_nil)) (pe_lst (pa_cons (pv 9) pa_nil)) (nomark _))
              (pw_or (pt_not (pt_val (pe_callB call_isI (by rfl) m4 boot_isi (pa_cons (pv 8) (pa_cons (pe_glob (v := .ref B) (by rfl) gE rfl) pa_nil)))))
              (pw_or1 (pt_not (pt_val (pe_callB call_isI (by rfl) m4 boot_isi (pa_cons (pv 8) (pa_cons (pe_bltn (v := .ty "ValueError") (by rfl) m7 (by decide +kernel) rfl) pa_nil))))))))) (pss_one (ps_ret pe_bl)) pss_nil)))
        (pss_cons (ps_if (pt_cmpR op_ne (pe_callB (call_reprL gd hr) (by rfl) m6 (by decide +kernel) (pa_cons (pe_lst (pa_cons (pe_fld (pe_ix ix_list (pv 7) pe_int (fun _ _ => rfl))) (pa_cons (pe_fld (pe_ix ix_list (pv 7) pe_int (fun _ _ => rfl))) (pa_cons (pe_fld (pe_ix ix_list (pv 7) pe_int (fun _ _ => rfl))) (pa_cons (pe_fld (pe_ix ix_list (pv 7) pe_int (fun _ _ => rfl))) pa_nil))))) pa_nil))
            (pe_callB (call_reprL gd hr) (by rfl) m6 (by decide +kernel) (pa_cons (pe_lst (pa_cons (pv 4) (pa_cons (pv 5) (pa_cons (pv 5) (pa_cons (pv 6) pa_nil))))) pa_nil)) (nomark _)) (pss_one (ps_ret pe_bl)) pss_nil)
        (pss_one (ps_if (pt_not (pt_val (pe_callG Ca.ok gd hr (by rfl) Ca.g Ca.k Ca.b pass0 (pa_cons (pv 4) (pa_cons (pv 5) pa_nil))))) (pss_one (ps_ret pe_bl)) pss_nil))))))))
      (pss_one (ps_ret pe_bl))))), ?_⟩
    -- draw, due
    refine ⟨.ref a, rfl, a, ns, rfl, hS, hl, fun d c H1 hd k1 D1 => ?_⟩
    refine ⟨(show 11 ≤ sizeLine by decide), fun l nl => ?_⟩
    have s0 : S2 (upd H1 l (.lst dueV)) d c l (ns ++ [0]) 0 := ⟨D1.new nl, upd_same⟩
    have hS1 : SqL K (upd H1 l (.lst dueV)) a (ns.map V.int) := (k1.trans (Kept.refl.new nl)).sql hS (fun z => z)
    have eD : upd H1 l (.lst [.str "text", .str "unsound", .str "program", .str "input", .str "place", .str "facts", .str "widths", .str "paper", .str "asked", .str "many", .str "line"]) = upd H1 l (.lst dueV) := rfl
    generalize upd H1 l (.lst dueV) = H2 at s0 hS1 eD
    have hlen : (ns.map V.int).length = ns.length := List.length_map ..
    have p9 : (10 : Int) ^ (9 : Int).toNat = 1000000000 := by decide
    refine ⟨.ref a, rfl, a, ns.map V.int, rfl, .inl ?_, 40, _, rfl, _, 1, rfl, rfl, _, rfl, ?_, ?_, for_range (lo := 0) (fun i σ H' => ∃ x3 x4 x5 x6 x7 x8 x9, σ = [some (.ref a), some (.ref d), some (.ref l), x3, x4, x5, x6, x7, x8, x9] ∧ S2 H' d c l (ns ++ [0]) (i * 10)) ?_ (fun i σ H2 hi h => ?_) (fun σ H2 h => ?_)⟩
    · exact eD ▸ hS1
    · rw [hlen]; split <;> omega
    · rw [hlen]; split <;> omega
    · exact ⟨_, _, _, _, _, _, _, rfl, eD ▸ s0⟩
    · obtain ⟨x3, x4, x5, x6, x7, x8, x9, rfl, s1⟩ := h
      clear eD s0 hS1
      have hi64 : i ≤ 64 := by
        rw [hlen] at hi
        split at hi <;> omega
      -- number, place
      refine ⟨.ref d, rfl, 10, 9, rfl, rfl, ⟨by decide, by decide, by decide⟩, d, c, ns ++ [0], _, _, rfl, s1.dr, by omega, by decide, by decide, fun r1 H3 r10 r11 k3 D3 => ?_⟩
      have r11 : r1 < 1000000000 := p9 ▸ r11
      have s3 := s1.step k3 D3
      refine ⟨.ref d, rfl, d, c, ns ++ [0], _, 40, rfl, D3, by omega, by decide, by decide, fun r2 H4 r20 r21 k4 D4 => ⟨_, _, rfl, ?_⟩⟩
      have s4 := s3.step k4 D4
      -- what
      refine ⟨(show 4 ≤ sizeLine by decide), fun p np => ⟨.ref d, rfl, d, c, ns ++ [0], _, 4, rfl, D4.new np, by omega, by decide, by decide, fun r3 H5 r30 r31 k5 D5 => ?_⟩⟩
      have s5 := (s4.stay (Kept.refl.new (o := .lst [.str "name", .str "long", .str "", .str "x"]) np)).step k5 D5
      obtain ⟨x, hx, w, rfl, w1, w2, w3⟩ := what_of r30 r31
      have pd : ¬ p = d := fun z => by
        obtain ⟨_, _, _, y, _⟩ := D4.at_
        rw [← z, np] at y
        cases y
      refine ⟨p, _, r3, .str w, rfl, rfl, .inl (.inl (k5.lst upd_same pd)), hx, ?_⟩
      -- some
      have q1 : Small (.int r1) := .inr ⟨r1, rfl, r10, r11⟩
      have q2 : Small (.int r2) := .inr ⟨r2, rfl, r20, by omega⟩
      have q3 : Small (.str w) := .inl ⟨w, rfl, by omega⟩
      refine ⟨.int r1, rfl, .int r2, rfl, .str w, rfl, _, _, _, rfl, q1, q2, q3, fun s es H6 ns6 k6 hs e6 h6 ⟨a0, a1, rr, ee, F0, F1⟩ => ?_⟩
      have s6 := s5.stay k6
      -- for one, word in zip(some, due)
      have hL : (es.map V.ref).length = dueV.length := by
        rw [List.length_map, e6]
        rfl
      refine ⟨.ref s, rfl, .ref l, rfl, s, l, es.map V.ref, dueV, rfl, SqL.of hs, SqL.of s6.du, RZ.for_zipL hL (fun j σ H' => ∃ x8 x9, σ = [some (.ref a), some (.ref d), some (.ref l), some (.int (0 + (i : Int))), some (.int r1), some (.int r2), some (.str w), some (.ref s), x8, x9] ∧ Kept None H6 H') ⟨_, _, rfl, Kept.refl⟩ (fun j σ H' h => ?_) (fun j y z T σ H' hy hz h nT => ?_) (fun σ H' h => ?_)⟩
      · obtain ⟨x8, x9, rfl, k⟩ := h
        exact ⟨SqL.of (k.lst hs (fun z => z)), SqL.of (k.lst s6.du (fun z => z))⟩
      · obtain ⟨x8, x9, rfl, k⟩ := h
        rw [List.getElem?_map] at hy
        obtain ⟨e, he, rfl⟩ := Option.map_eq_some_iff.mp hy
        obtain ⟨hj, rfl⟩ := due_at j z hz
        have k7 : Kept None H6 (upd H' T (.tup [.ref e, .str (wd j)])) := k.new (k.free nT)
        refine ⟨T, _, rfl, SqT.of upd_same, rfl, .ref e, _, rfl, .str (wd j), _, rfl, rfl, ?_⟩
        generalize upd H' T (.tup [.ref e, .str (wd j)]) = H7 at k7 ⊢
        refine ⟨.ref e, rfl, j, e, rfl, hj, (h6 j e he).stay0 k7, fun o H8 no k8 ho => ?_⟩
        refine ⟨.str (wd j), rfl, (show 1 ≤ sizeLine by decide), fun b nb => ?_⟩
        have k9 : Kept None H6 (upd H8 b (.lst [.str (wd j)])) := (k7.trans k8).new ((k7.trans k8).free nb)
        have ob : o ≠ b := ne_of_none ho nb
        have ho9 : upd H8 b (.lst [.str (wd j)]) o = some (.lst [.str (wd j)]) := by rw [upd_ne ob]; exact ho
        have hb9 : upd H8 b (.lst [.str (wd j)]) b = some (.lst [.str (wd j)]) := upd_same
        generalize upd H8 b (.lst [.str (wd j)]) = H9 at k9 ho9 hb9 ⊢
        refine ⟨.list [.str (wd j)], .list [.str (wd j)], .lst (SqL.of ho9) (.cons (.str _) .nil), .lst (SqL.of hb9) (.cons (.str _) .nil), wd_ok j hj, wd_ok j hj, _, rfl, ?_⟩
        rw [SeqAt.eqv_refl _ (SeqAt.canLay_of_shaped (wd_ok j hj))]
        have hh := (h6 j e he).stay0 k9
        refine iteF ⟨.ref e, rfl, e, ca K j, .ref B, .ref B, true, rfl, kk.exc j hj, hh, fun u z => z, kB j hj, _, rfl, ?_⟩
        refine iteF ⟨.ref e, rfl, e, ca K j, .ty "ValueError", .type "ValueError", true, rfl, kk.exc j hj, hh, fun u z => z, kV j hj, _, rfl, ?_⟩
        exact iteF ⟨_, _, rfl, k9⟩
      · obtain ⟨x8, x9, rfl, k⟩ := h
        have s7 := s6.stay k
        have hs7 := k.lst hs (fun z => z)
        subst ee
        obtain ⟨d0, f01, f02⟩ := F0.stay k
        obtain ⟨d1, f11, f12⟩ := F1.stay k
        have i0 : atI ((a0 :: a1 :: rr).map V.ref) 0 = some (.ref a0) := atI_nat (j := 0) rfl
        have i1 : atI ((a0 :: a1 :: rr).map V.ref) 1 = some (.ref a1) := atI_nat (j := 1) rfl
        obtain ⟨ok1, ok2⟩ := dRow_ok (n := r1) (p := r2) (w := w) r10 r11 r20 (by omega) w1 w2
        refine ⟨.ref s, rfl, s, _, 0, .ref a0, rfl, rfl, .inl (.inl hs7), i0, a0, ca K 0, d0, _, .int r1, rfl, xB, a1', f01, f02, lk_line _ _, ?_⟩
        refine ⟨.ref s, rfl, s, _, 0, .ref a0, rfl, rfl, .inl (.inl hs7), i0, a0, ca K 0, d0, _, .int r2, rfl, xB, a2', f01, f02, lk_word _ _, ?_⟩
        refine ⟨.ref s, rfl, s, _, 1, .ref a1, rfl, rfl, .inl (.inl hs7), i1, a1, ca K 1, d1, _, .int r2, rfl, xU, a3', f11, f12, lk_place _ _, ?_⟩
        refine ⟨.ref s, rfl, s, _, 1, .ref a1, rfl, rfl, .inl (.inl hs7), i1, a1, ca K 1, d1, _, .str w, rfl, xU, a4', f11, f12, lk_what _ _, ?_⟩
        refine ⟨(show 4 ≤ sizeLine by decide), fun u nu => ⟨u, dRow r1 r2 w, rfl, dp_row upd_same, ok1, rfl, (show 1 ≤ 100 by decide), ok2, ?_⟩⟩
        refine ⟨.int r1, rfl, .int r2, rfl, .int r2, rfl, .str w, rfl, (show 4 ≤ sizeLine by decide), fun v nv => ⟨v, dRow r1 r2 w, rfl, dp_row upd_same, ok1, rfl, (show 1 ≤ 100 by decide), ok2, rfl, _, rfl, ?_⟩⟩
        rw [decide_eq_true rfl]
        have s8 := s7.stay ((Kept.refl.new (o := .lst [.int r1, .int r2, .int r2, .str w]) nu).trans (Kept.refl.new (o := .lst [.int r1, .int r2, .int r2, .str w]) nv))
        refine iteF ⟨.int r1, rfl, .int r2, rfl, r1, r2, rfl, r10, r11, r20, by omega, fun H9 k9 => ⟨_, rfl, ?_⟩⟩
        have s9 := s8.stay k9
        exact iteF ⟨_, _, _, _, _, _, _, rfl, ⟨s9.dr.more (by omega), s9.du⟩⟩
    · exact q H2
end
end K2

set_option Elab.async false
set_option linter.all false
set_option maxRecDepth 100000
set_option maxHeartbeats 0
namespace K2
open PySem PySem.Spec PyProof.Rows L2
/-! ### what stands behind the top: facts of the classes -/
def oexB (K : PySem.W.Frag) (C : Addr) : Bool := (match K.lookup C with
  | some ⟨.type "type", _, .cls cd, sl⟩ => (match cd.mro, sl.toList with
    | .ref D :: bm, [_, _, _, _, some (.builtin n), _] => decide (D = C) && (decide (n = "ValueError.__new__") && (!cd.hasDel && (cd.hasDict && PySem.HandSPX.refsVE bm)))
    | _, _ => false)
  | _ => false)
theorem oexB_ok {K : PySem.W.Frag} {C : Addr} (q : oexB K C = true) : ∃ nm qn N bs bm sn sub ab col dd k0 k1 k2 k3 k5, K.lookup C = some (excClassObj nm qn C N bs bm true sn sub ab col dd k0 k1 k2 k3 k5 "ValueError.__new__") ∧ PySem.HandSPX.refsVE bm = true := by
  unfold oexB at q
  split at q
  · rename_i dd cd sl look
    split at q
    · rename_i D bm k0 k1 k2 k3 n k5 hm hs
      obtain ⟨q1, q⟩ := He.ba q
      obtain ⟨q2, q⟩ := He.ba q
      obtain ⟨q3, q⟩ := He.ba q
      obtain ⟨q4, q5⟩ := He.ba q
      obtain rfl := of_decide_eq_true q1
      obtain rfl := of_decide_eq_true q2
      obtain ⟨nm, bs, mro, ns, qn, hd, sn, sub, ab, col, del⟩ := cd
      dsimp only at hm q3 q4
      subst hm q4
      have q3 : del = false := by cases del <;> first | rfl | cases q3
      subst q3
      obtain ⟨l⟩ := sl
      dsimp only at hs
      subst hs
      exact ⟨nm, qn, ns, bs, bm, sn, sub, ab, col, dd, k0, k1, k2, k3, k5, look, q5⟩
    · cases q
  · cases q
def mkB (K : PySem.W.Frag) (C : Addr) : Bool := oexB K C && (He.eqO (PySem.W.findIn K (.ref C) "__setattr__") (some (some (.builtin "object.__setattr__"))) && (decide (PySem.W.subIn K (.ref C) (.type "BaseException") = some true) && (decide (PySem.W.typeIn K (.ref C) = some (.type "type")) && (PySem.W.keepIn K (.ref C) &&
  (He.eqO (PySem.W.findIn K (.ref C) "__init__") (some (some (.ref (He.ma K C "__init__")))) && (decide (PySem.W.typeIn K (.ref (He.ma K C "__init__")) = some (.type "function")) && xfB K C))))))
theorem mkB_ok {K : PySem.W.Frag} {C : Addr} (q : mkB K C = true) : MkC K C (He.ma K C "__init__") ∧ XfC K C := by
  obtain ⟨q1, q⟩ := He.ba q
  obtain ⟨q2, q⟩ := He.ba q
  obtain ⟨q3, q⟩ := He.ba q
  obtain ⟨q4, q⟩ := He.ba q
  obtain ⟨q5, q⟩ := He.ba q
  obtain ⟨q6, q⟩ := He.ba q
  obtain ⟨q7, q8⟩ := He.ba q
  exact ⟨⟨⟨oexB_ok q1, He.eqO_ok q2, of_decide_eq_true q3, of_decide_eq_true q4, q5⟩, He.eqO_ok q6, of_decide_eq_true q7⟩, xfB_ok q8⟩
def excB (K : PySem.W.Frag) (C : Addr) : Bool := xfB K C && (He.eqO (PySem.W.findIn K (.ref C) "__class__") (some (some (.builtin "object.__class__"))) && PySem.W.mroIn K C (.type "object") == some true)
def comB (K : PySem.W.Frag) : Bool := He.eqO (PySem.W.specialIn K (.builtin "object.__class__") "__get__") (some (some (.builtin "getset_descriptor.__get__"))) && decide (PySem.W.takesIn K (.builtin "object.__class__") = some true)
theorem excB_ok {K : PySem.W.Frag} {C : Addr} (q : excB K C = true) (c : comB K = true) : ExcC K C := by
  obtain ⟨q1, q⟩ := He.ba q
  obtain ⟨q2, q3⟩ := He.ba q
  obtain ⟨c1, c2⟩ := He.ba c
  have x := xfB_ok q1
  exact ⟨x.ga, x.gg, x.exC, x.hdC, He.eqO_ok q2, He.eqO_ok c1, of_decide_eq_true c2, eq_of_beq q3⟩
def baseB (K : PySem.W.Frag) (B : Addr) : Bool := He.eqO (PySem.W.specialIn K (.ref B) "__getattribute__") (some (some (.builtin "type.__getattribute__"))) && (PySem.W.readsIn K B (.type "type") && (match PySem.W.findCls K (.ref B) (.type "type") "__init__" with
  | some (.val v) => decide (v = .builtin "ValueError.__init__")
  | _ => false))
theorem baseB_ok {K : PySem.W.Frag} {B : Addr} (q : baseB K B = true) : BaseC K B := by
  obtain ⟨q1, q⟩ := He.ba q
  obtain ⟨q2, q3⟩ := He.ba q
  refine ⟨He.eqO_ok q1, q2, ?_⟩
  split at q3
  · rename_i v e
    rw [e, of_decide_eq_true q3]
  · cases q3
abbrev be (K : PySem.W.Frag) : Addr := He.ga K "BitError"
def kitB (K : PySem.W.Frag) : Bool := (List.range 11).all fun i => ((List.range 11).all fun j => decide (PySem.W.kitOne K (.ref (ca K i)) (.ref (ca K j)) = some (i == j))) &&
  (decide (PySem.W.kitOne K (.ref (ca K i)) (.ref (be K)) = some true) && (decide (PySem.W.kitOne K (.ref (ca K i)) (.type "ValueError") = some true) && (excB K (ca K i) && (decide (i < 2) || (PySem.W.excIn K (ca K i) He.veBase "ValueError.__new__" && PySem.W.keepIn K (.ref (ca K i)))))))
def fldB (K : PySem.W.Frag) : Bool := He.eqO (PySem.W.findIn K (.ref (ca K 0)) "line") (some none) && (He.eqO (PySem.W.findIn K (.ref (ca K 0)) "word") (some none) && (He.eqO (PySem.W.findIn K (.ref (ca K 1)) "place") (some none) && (He.eqO (PySem.W.findIn K (.ref (ca K 1)) "what") (some none) &&
  (decide (PySem.W.exmOne K (.ref (ca K 0)) (.ref (ca K 0)) = some true) && decide (PySem.W.exmOne K (.ref (ca K 1)) (.ref (be K)) = some true)))))
def exB (K : PySem.W.Frag) : Bool := comB K && (kitB K && (fldB K && (baseB K (be K) && (mkB K (ca K 0) && mkB K (ca K 1)))))
structure Facts (K : PySem.W.Frag) : Prop where
  kk : Kits K
  kB : ∀ i, i < 11 → PySem.W.kitOne K (.ref (ca K i)) (.ref (be K)) = some true
  kV : ∀ i, i < 11 → PySem.W.kitOne K (.ref (ca K i)) (.type "ValueError") = some true
  ex : ∀ i, 2 ≤ i → i < 11 → ExC1 K (ca K i)
  b : BaseC K (be K)
  m0 : MkC K (ca K 0) (He.ma K (ca K 0) "__init__")
  m1 : MkC K (ca K 1) (He.ma K (ca K 1) "__init__")
  x0 : XfC K (ca K 0)
  x1 : XfC K (ca K 1)
  a1 : PySem.W.findIn K (.ref (ca K 0)) "line" = some none
  a2 : PySem.W.findIn K (.ref (ca K 0)) "word" = some none
  a3 : PySem.W.findIn K (.ref (ca K 1)) "place" = some none
  a4 : PySem.W.findIn K (.ref (ca K 1)) "what" = some none
  e1 : PySem.W.exmOne K (.ref (ca K 0)) (.ref (ca K 0)) = some true
  e2 : PySem.W.exmOne K (.ref (ca K 1)) (.ref (be K)) = some true
theorem exB_ok {K : PySem.W.Frag} (q : exB K = true) : Facts K := by
  obtain ⟨qc, q⟩ := He.ba q
  obtain ⟨qk, q⟩ := He.ba q
  obtain ⟨qf, q⟩ := He.ba q
  obtain ⟨qb, q⟩ := He.ba q
  obtain ⟨q0, q1⟩ := He.ba q
  obtain ⟨f1, qf⟩ := He.ba qf
  obtain ⟨f2, qf⟩ := He.ba qf
  obtain ⟨f3, qf⟩ := He.ba qf
  obtain ⟨f4, qf⟩ := He.ba qf
  obtain ⟨f5, f6⟩ := He.ba qf
  have row : ∀ i, i < 11 → _ := fun i hi => List.all_eq_true.mp qk i (List.mem_range.mpr hi)
  obtain ⟨m0, x0⟩ := mkB_ok q0
  obtain ⟨m1, x1⟩ := mkB_ok q1
  refine ⟨⟨fun i hi j hj => ?_, fun i hi => ?_⟩, fun i hi => ?_, fun i hi => ?_, fun i h2 hi => ?_, baseB_ok qb, m0, m1, x0, x1, He.eqO_ok f1, He.eqO_ok f2, He.eqO_ok f3, He.eqO_ok f4, of_decide_eq_true f5, of_decide_eq_true f6⟩
  · exact of_decide_eq_true (List.all_eq_true.mp (He.ba (row i hi)).1 j (List.mem_range.mpr hj))
  · exact excB_ok (He.ba (He.ba (He.ba (He.ba (row i hi)).2).2).2).1 qc
  · exact of_decide_eq_true (He.ba (He.ba (row i hi)).2).1
  · exact of_decide_eq_true (He.ba (He.ba (He.ba (row i hi)).2).2).1
  · have z := (He.ba (He.ba (He.ba (He.ba (row i hi)).2).2).2).2
    rw [decide_eq_false (by omega), Bool.false_or] at z
    obtain ⟨z1, z2⟩ := He.ba z
    exact ⟨z1, z2⟩
/-! ### the run -/
def mkD (x : PySem.Str) (i : Nat) : He.DefD := ⟨(x, none), x, x, defArgs (top i), defBody (top i), defScope (top i), [], []⟩
def fn : List He.DefD := [⟨("BadText", some "__init__"), "__init__", "BadText.__init__", defArgs sBad, defBody sBad, defScope sBad, [], []⟩, ⟨("Unsound", some "__init__"), "__init__", "Unsound.__init__", defArgs sUns, defBody sUns, defScope sUns, [], []⟩,
  mkD "_law_begin" 14, mkD "_law_mixed" 15, mkD "_law_next" 16, mkD "_law_words" 17, mkD "_law_made" 18, mkD "_law_is_caught" 19, mkD "law" 20]
def fa : List He.Fa := [.glo "BadText", .glo "Unsound", .glo "BadProgram", .glo "BadInput", .glo "BadPlace", .glo "BadFacts", .glo "BadWidths", .glo "BadPaper", .glo "BadAsked", .glo "TooMany", .glo "BadLine", .glo "BitError",
  .glo "_law_begin", .glo "_law_mixed", .glo "_law_next", .glo "_law_words", .glo "_law_made", .glo "_law_is_caught", .glo "law", .free "range", .free "min", .free "len", .free "isinstance", .free "zip", .free "repr", .free "ValueError"]
abbrev R : PySem.W.OpenRow := PySem.W.OpenLaw.row PySem.Challenge.rw_bitneed_k02_refusals_by_hand
def fr (g : Addr → Option Obj) : PySem.W.Frag := He.frG g (He.asD g 5 ++ [cStatics])
abbrev AlS : Type := Bool × He.AlD
def obS (g : Addr → Option Obj) : AlS := (exB (fr g), He.obsD fa fn (fr g))
def hkS : PySem.W.Hook where
  α := AlS
  obs := fun s => obS s.heap.get?
  val := fun _ => (true, He.valD fn)
  says := fun _ h => ∃ K : PySem.W.Frag, K.In h ∧ exB K = true ∧ He.SaysD fa fn K
  of := fun _ s e => ⟨fr s.heap.get?, He.frG_in, congrArg Prod.fst e, congrArg Prod.snd e⟩
  keeps := fun _ _ _ ⟨K, inK, e1, e2⟩ k => ⟨K, PySem.W.Frag.In.keeps inK k, e1, e2⟩
def ob (s : PySem.W.SharedT) : AlS := obS (HandSHeadRun.getT s)
theorem ob_eq (s : PySem.W.SharedT) : ob s = hkS.obs s.abs := congrArg obS (funext (HandSHeadRun.getT_eq s))
def loose : List PySem.Str := ["BitError", "BadText", "Unsound", "BadProgram", "BadInput", "BadPlace", "BadFacts", "BadWidths", "BadPaper", "BadAsked", "TooMany", "BadLine", "_law_begin", "_law_mixed", "_law_next", "_law_words", "_law_made", "_law_is_caught"]
end K2

set_option Elab.async false
set_option linter.all false
set_option maxRecDepth 100000
set_option maxHeartbeats 0
namespace K2
open PySem PySem.Spec PyProof.Rows L2
theorem run (w : World) : HandSHeadRun.RunEq R (PySem.W.view R.prog [20]) hkS ob 3000 loose w := by
  intro os
  kernel_rfl
end K2

set_option Elab.async false
set_option linter.all false
set_option maxRecDepth 100000
set_option maxHeartbeats 0
namespace K2
open PySem PySem.Spec PyProof.Rows L2
theorem names11 {K : PySem.W.Frag} {h : Heap} {mg : PySem.Str → Option Value} (X : K.In h) (G : h.Ns mainGlobals mg) (c : He.SaysD fa fn K) : Names11 K mg := ⟨fun i hi => by
  match i, hi with
  | 0, _ => exact He.glo_ok X G (c.fact 0 (f := .glo "BadText") rfl)
  | 1, _ => exact He.glo_ok X G (c.fact 1 (f := .glo "Unsound") rfl)
  | 2, _ => exact He.glo_ok X G (c.fact 2 (f := .glo "BadProgram") rfl)
  | 3, _ => exact He.glo_ok X G (c.fact 3 (f := .glo "BadInput") rfl)
  | 4, _ => exact He.glo_ok X G (c.fact 4 (f := .glo "BadPlace") rfl)
  | 5, _ => exact He.glo_ok X G (c.fact 5 (f := .glo "BadFacts") rfl)
  | 6, _ => exact He.glo_ok X G (c.fact 6 (f := .glo "BadWidths") rfl)
  | 7, _ => exact He.glo_ok X G (c.fact 7 (f := .glo "BadPaper") rfl)
  | 8, _ => exact He.glo_ok X G (c.fact 8 (f := .glo "BadAsked") rfl)
  | 9, _ => exact He.glo_ok X G (c.fact 9 (f := .glo "TooMany") rfl)
  | 10, _ => exact He.glo_ok X G (c.fact 10 (f := .glo "BadLine") rfl)
  | n + 11, h => omega⟩
theorem facts {P : Program} {w : World} {K : PySem.W.Frag} {h : Heap} {mg : PySem.Str → Option Value} {f : Addr} (X : K.In h) (G : h.Ns mainGlobals mg) (hfa : mg ("law" : PySem.Str) = some (.ref f)) (q : Facts K) (c : He.SaysD fa fn K) :
    ∃ fd : FuncData, (∀ (s : Shared) (v : Value), BindsTo s fd ⟨[v], []⟩ [("script", v)]) ∧ ∀ base : Heap, K.In base → base.Ns mainGlobals mg → FnG P w K mg base 4 f fd ["script"] (spLaw K) := by
  obtain ⟨fdB, FB⟩ := c.def_ 0 (d := ⟨("BadText", some "__init__"), "__init__", "BadText.__init__", defArgs sBad, defBody sBad, defScope sBad, [], []⟩) rfl
  obtain ⟨fdU, FU⟩ := c.def_ 1 (d := ⟨("Unsound", some "__init__"), "__init__", "Unsound.__init__", defArgs sUns, defBody sUns, defScope sUns, [], []⟩) rfl
  obtain ⟨fd1, F1⟩ := c.def_ 2 (d := mkD "_law_begin" 14) rfl
  obtain ⟨fd2, F2⟩ := c.def_ 3 (d := mkD "_law_mixed" 15) rfl
  obtain ⟨fd3, F3⟩ := c.def_ 4 (d := mkD "_law_next" 16) rfl
  obtain ⟨fd4, F4⟩ := c.def_ 5 (d := mkD "_law_words" 17) rfl
  obtain ⟨fd5, F5⟩ := c.def_ 6 (d := mkD "_law_made" 18) rfl
  obtain ⟨fd6, F6⟩ := c.def_ 7 (d := mkD "_law_is_caught" 19) rfl
  obtain ⟨fd7, F7⟩ := c.def_ 8 (d := mkD "law" 20) rfl
  have e := hfa.symm.trans (He.glo_ok X G (c.fact 18 (f := .glo "law") rfl))
  cases e
  have n11 := names11 X G c
  have gE := He.glo_ok X G (c.fact 11 (f := .glo "BitError") rfl)
  have g1 := He.glo_ok X G (c.fact 12 (f := .glo "_law_begin") rfl)
  have g2 := He.glo_ok X G (c.fact 13 (f := .glo "_law_mixed") rfl)
  have g3 := He.glo_ok X G (c.fact 14 (f := .glo "_law_next") rfl)
  have g4 := He.glo_ok X G (c.fact 15 (f := .glo "_law_words") rfl)
  have g5 := He.glo_ok X G (c.fact 16 (f := .glo "_law_made") rfl)
  have g6 := He.glo_ok X G (c.fact 17 (f := .glo "_law_is_caught") rfl)
  have mrange := He.free_ok X G (c.fact 19 (f := .free "range") rfl)
  have mmin := He.free_ok X G (c.fact 20 (f := .free "min") rfl)
  have mlen := He.free_ok X G (c.fact 21 (f := .free "len") rfl)
  have misi := He.free_ok X G (c.fact 22 (f := .free "isinstance") rfl)
  have mzip := He.free_ok X G (c.fact 23 (f := .free "zip") rfl)
  have mrepr := He.free_ok X G (c.fact 24 (f := .free "repr") rfl)
  have mve := He.free_ok X G (c.fact 25 (f := .free "ValueError") rfl)
  have b := FunD.bindsA (ps := ["script"]) F7 fun _ _ _ _ _ _ us hl => match us, hl with | [_], _ => rfl
  have bB : Binds K fdB ["self", "line", "word"] [] := FunD.bindsN FB fun _ _ _ _ _ _ us hl => match us, hl with | [_, _, _], _ => rfl
  have bU : Binds K fdU ["self", "place", "what"] [] := FunD.bindsN FU fun _ _ _ _ _ _ us hl => match us, hl with | [_, _, _], _ => rfl
  have b1 : Binds K fd1 ["script"] [] := FunD.bindsN F1 fun _ _ _ _ _ _ us hl => match us, hl with | [_], _ => rfl
  have b2 : Binds K fd2 ["cell", "k"] [] := FunD.bindsN F2 fun _ _ _ _ _ _ us hl => match us, hl with | [_, _], _ => rfl
  have b3 : Binds K fd3 ["draw", "many"] [] := FunD.bindsN F3 fun _ _ _ _ _ _ us hl => match us, hl with | [_, _], _ => rfl
  have b4 : Binds K fd4 ["error"] [] := FunD.bindsN F4 fun _ _ _ _ _ _ us hl => match us, hl with | [_], _ => rfl
  have b5 : Binds K fd5 ["number", "place", "what"] [] := FunD.bindsN F5 fun _ _ _ _ _ _ us hl => match us, hl with | [_, _, _], _ => rfl
  have b6 : Binds K fd6 ["number", "place"] [] := FunD.bindsN F6 fun _ _ _ _ _ _ us hl => match us, hl with | [_, _], _ => rfl
  refine ⟨fd7, fun s v => b s [v] rfl, fun base _ _ => ?_⟩
  have kB : FnOk P w K mg base CX0 1 _ fdB _ _ := ok_bad FB q.m0.t q.a1 q.a2 q.b gE
  have kU : FnOk P w K mg base CX0 1 _ fdU _ _ := ok_uns FU q.m1.t q.a3 q.a4 q.b gE
  have k1 : FnOk P w K mg base CX0 1 _ fd1 _ _ := ok_begin F1
  have k2 : FnOk P w K mg base CX0 1 _ fd2 _ _ := ok_mixed F2
  have k3 : FnOk P w K mg base CX0 2 _ fd3 _ _ := ok_next F3 k2 b2 F2.kp g2 mlen
  have k4 : FnOk P w K mg base CX0 1 _ fd4 _ _ := ok_wd F4 q.kk n11 misi
  have k5 : FnOk P w K mg base CX0 3 _ fd5 _ _ := ok_md F5 n11 q.m0 q.m1 q.ex kB kU bB bU
  have k6 : FnG P w K mg base 3 _ fd6 _ _ := ok_ca F6 n11 gE mrepr q.m0 q.m1 q.x0 q.x1 q.a1 q.a2 q.a3 q.a4 q.e1 q.e2 kB kU bB bU
  exact ok_law F7 ⟨_, _, k1, b1, F1.kp, g1⟩ ⟨_, _, k3, b3, F3.kp, g3⟩ ⟨_, _, k4, b4, F4.kp, g4⟩ ⟨_, _, k5, b5, F5.kp, g5⟩ ⟨_, _, k6, b6, F6.kp, g6⟩ q.kk gE q.kB q.kV q.x0 q.x1 q.a1 q.a2 q.a3 q.a4 mrange mmin mlen misi mzip mrepr mve
end K2
open PySem PySem.W PySem.Calls PyProof.Rows
theorem PySem.Challenge.cw_bitneed_k02_refusals_by_hand_holds : PySem.Challenge.rw_bitneed_k02_refusals_by_hand.Holds := by
  w_on; o_law
  refine HandSHeadRun.head_any (r := OpenLaw.row PySem.Challenge.rw_bitneed_k02_refusals_by_hand) (q := view (OpenLaw.row PySem.Challenge.rw_bitneed_k02_refusals_by_hand).prog [20]) (H := K2.hkS) (ob := K2.ob) (M := 3000) (loose := K2.loose) (d := HandSHeadRun.topDef (OpenLaw.row PySem.Challenge.rw_bitneed_k02_refusals_by_hand).prog 20) (kwd := []) K2.ob_eq
    (by kernel_rfl) (fun s => by kernel_rfl) K2.run (by kernel_rfl) (by kernel_rfl) (by kernel_rfl) (by rfl) (by first | assumption | decide +kernel) (by decide +kernel) ⟨rfl, rfl, rfl, rfl, rfl, by decide +kernel⟩ ?hw ?hc
  case hw => w_witness2
  case hc =>
    refine K2.walkG (l := PySem.Challenge.rw_bitneed_k02_refusals_by_hand) (n := 63) (k := 4) (x := "script") rfl (by decide) (by kernel_rfl) ⟨rfl, by decide, by decide⟩ ?F
    intro w mg f h Y G hmg0
    obtain ⟨K, KX, ex, c⟩ := Y
    have hmg : mg ("law" : PySem.Str) = some (.ref f) := by
      have e : (HandSHeadRun.topDef (OpenLaw.row PySem.Challenge.rw_bitneed_k02_refusals_by_hand).prog 20).name = ("law" : PySem.Str) := by kernel_rfl
      rw [← e]
      exact hmg0
    obtain ⟨fd, hb, hF⟩ := K2.facts (P := (PySem.Challenge.rw_bitneed_k02_refusals_by_hand).prog) (w := w) KX G hmg (K2.exB_ok ex) c
    exact ⟨K, fd, K2.spLaw K, KX, hb, hF, fun H a ns hl hS => ⟨a, ns, rfl, hS, hl, fun _ => rfl⟩⟩

