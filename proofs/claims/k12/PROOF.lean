import PyProof.Rows.All
import HandS.ForMost
import HandS.ExcInit
import HandS.ExcField
import HandS.ExcValue
import HandS.ExcIs
import HandS.FStr
import HandS.ClsMeth
import HandS.Ends
import PyProof.ReprRoads
import KE.KExcIs
import KE.KIsAll
import HandS.HeadHook4
import HandS.HeadWalk
import HandS.Head2
import HandS.AnyAll
import HandS.StrMore
import HandS.IsInst
import HandS.More
import HandS.Flow
import HandS.Style
import HandS.WideBits
import HandS.Text
import HandS.TupLe
import HandS.Star
import HandS.CallLocal
import KE.DatumOrd
import PyProof.ReprBulk
import HandS.SetFor
import HandS.Strs
import HandS.Walk
import HandS.Zip
import HandS.Conv
import HandS.DictComp
import PySem.Challenge.RW_bitneed_k12_facts_bit_by_bit
set_option Elab.async false
set_option linter.all false
set_option maxRecDepth 100000
set_option maxHeartbeats 2000000
namespace K12
open PySem PySem.Spec PyProof.Rows L2
/-! ### the text -/
def top (i : Nat) : Stmt := PySem.Challenge.pw_bitneed_k12_facts_bit_by_bit.main.body.getD i (.Pass ⟨0, 0, 0, 0⟩)
abbrev FnP (K : PySem.W.Frag) (x : PySem.Str) (st : Stmt) (f : Addr) (fd : FuncData) : Prop := FunD K x x (defArgs st) (defBody st) (defScope st) [] [] f fd
/-! ### rules of our own -/
section
variable {X : Cx}
/-- a list that is only read, and a new one behind it -/
theorem op_catR : OpR X (binaryOp .Add) (fun x y H Q => ∃ l b xs zs, x = .ref l ∧ y = .ref b ∧ SqL X.K H l xs ∧ H b = some (.lst zs) ∧ xs.length + zs.length ≤ sizeLine ∧ ∀ p, H p = none → Q (.ref p) (upd H p (.lst (xs ++ zs)))) := by
  intro pins s σ H x y v u Q I rx ry h
  obtain ⟨l, b, xs, zs, rfl, rfl, hs, hB, hz, q⟩ := h
  cases rx
  cases ry
  obtain ⟨its, rv, ⟨o, n, ho, hc, hdn, hd⟩, hlen⟩ := I.list hs
  obtain ⟨cls, dd, data, sl⟩ := o
  obtain rfl : cls = Value.type "list" := hc
  obtain rfl : data = Data.seq its.toArray n := hd
  obtain ⟨z2, its2, n2, r2, hl2, e2⟩ := I.lstM hB
  have hl := rv.length
  have ea : its.toArray ++ its2.toArray = (its ++ its2).toArray := by simp
  refine concat_meets ⟨_, ho, rfl⟩ ⟨_, e2, rfl⟩ noFill_list_add seq_list_add PySem.F.slot_list_add PySem.F.entry_list_add (PySem.F.args_list_add_2 _ _)
    (list_addW l b its.toArray its2.toArray n n2 dd none sl #[] (by rw [List.size_toArray, List.size_toArray, ← hl, ← hl2]; exact hz)) ⟨ho, e2, ?_⟩
  rw [ea]
  exact ⟨.ref _, _, I.lnew (t' := s.toks) (rv.append r2) (by rw [List.length_append]; exact hz), rfl, q _ I.fresh⟩
end
/-- a def whose code object is told -/
theorem okC {P : Program} {w : World} {K : PySem.W.Frag} {mg : PySem.Str → Option Value} {base : Heap} {x : PySem.Str} {st : Stmt} {fd : FuncData} {N ps : List PySem.Str} {k : Nat} {sp : Sp} {p : PySem.Str × Option PySem.Str} (F : FnP K x st (He.fAd K p) fd) (S : FnScope N ps (defScope st))
    (len : ∀ vs H Q E, sp vs H Q E → vs.length = ps.length)
    (hbody : ∀ (A : Around) (outer : List Env) (s : Shared) (H : Hp) (vs : List V) (Q : VK) (E : XK), Room k (A.deeper (envOfC x (defScope st) s.heap.objs.size (He.fAd K p) (.ref (He.codeOf K p)))) → sp vs H Q E →
      ∃ t, PSs (cxOf CX0 P w K mg base N x (defScope st) (He.fAd K p) (.ref (He.codeOf K p)) A outer s H E).nox (defBody st) t ∧ t { nx := fun _ H' => Q .non H', rt := Q } (start N vs) H) : FnOk P w K mg base CX0 (k + 1) (He.fAd K p) fd ps sp := by
  obtain ⟨oc, od, dV, kV, doc, pm, an, cdv, ct, osl, rfl, lk, hcd, _, _⟩ := F.ex
  obtain ⟨c, rfl⟩ := He.codeIn_ref hcd
  have e : He.codeOf K p = c := He.codeOf_eq lk rfl
  subst e
  refine fn_of lk hcd S len fun A outer s H vs Q E hr hsp => ?_
  obtain ⟨t, h, q⟩ := hbody A outer s H vs Q E hr hsp
  exact ⟨t, h.nox, q⟩
/-! ### what stays -/
/-- an object of the heap ahead, as it may stand behind: tables may have grown -/
def Ko (o : HO) (x : Option HO) : Prop := match o with
  | .tbl ps => ∃ qs, x = some (.tbl qs) ∧ (TriplesOk ps.toList → TriplesOk qs.toList)
  | o => x = some o
theorem ko_refl (o : HO) : Ko o (some o) := by
  cases o <;> first | rfl | exact ⟨_, rfl, fun h => h⟩
theorem ko_some {o : HO} {x : Option HO} (h : Ko o x) : ∃ u, x = some u := by
  cases o <;> first | exact ⟨_, h⟩ | (obtain ⟨qs, e, _⟩ := h; exact ⟨_, e⟩)
theorem ko_trans {o : HO} {x y : Option HO} (h : Ko o x) (k : ∀ u, x = some u → Ko u y) : Ko o y := by
  cases o <;> first | exact k _ h | (obtain ⟨qs, e, z⟩ := h; obtain ⟨rs, e2, z2⟩ := k _ e; exact ⟨rs, e2, fun q => z2 (z q)⟩)
/-- all that was tracked stands, but what stands at the addresses for which D holds -/
def Kept (D : Addr → Prop) (H H' : Hp) : Prop := ∀ b o, H b = some o → ¬ D b → Ko o (H' b)
theorem Kept.refl {D : Addr → Prop} {H : Hp} : Kept D H H := fun b o e _ => by rw [e]; exact ko_refl o
theorem Kept.trans {D : Addr → Prop} {H H1 H2 : Hp} (a : Kept D H H1) (b : Kept D H1 H2) : Kept D H H2 := fun c o e n => ko_trans (a c o e n) fun u q => b c u q n
theorem Kept.weak {D D' : Addr → Prop} {H H1 : Hp} (a : Kept D H H1) (h : ∀ b, D b → D' b) : Kept D' H H1 := fun c o e n => a c o e fun d => n (h c d)
theorem Kept.new {D : Addr → Prop} {H H1 : Hp} {p : Addr} {o : HO} (a : Kept D H H1) (n : H p = none) : Kept D H (upd H1 p o) := fun c u e d => by
  rw [upd_ne (ne_of_none e n)]
  exact a c u e d
theorem Kept.upd {D : Addr → Prop} {H H1 : Hp} {p : Addr} {o : HO} (a : Kept D H H1) (d : D p) : Kept D H (upd H1 p o) := fun c u e n => by
  rw [upd_ne (fun z => n (by rw [z]; exact d))]
  exact a c u e n
abbrev None : Addr → Prop := fun _ => False
theorem Kept.free {H H1 : Hp} (a : Kept None H H1) {p : Addr} (h : H1 p = none) : H p = none := by
  cases e : H p with
  | none => rfl
  | some o =>
    obtain ⟨u, q⟩ := ko_some (a p o e (fun z => z))
    rw [h] at q
    cases q
theorem Kept.lst {D : Addr → Prop} {H H1 : Hp} (a : Kept D H H1) {p : Addr} {xs : List V} (h : H p = some (.lst xs)) (n : ¬ D p) : H1 p = some (.lst xs) := a p _ h n
theorem Kept.tup {D : Addr → Prop} {H H1 : Hp} (a : Kept D H H1) {p : Addr} {xs : List V} (h : H p = some (.tup xs)) (n : ¬ D p) : H1 p = some (.tup xs) := a p _ h n
theorem Kept.dK {D : Addr → Prop} {H H1 : Hp} (a : Kept D H H1) {p : Addr} {kvs : List (Key × V)} (h : H p = some (.dK kvs)) (n : ¬ D p) : H1 p = some (.dK kvs) := a p _ h n
theorem Kept.frz {D : Addr → Prop} {H H1 : Hp} (a : Kept D H H1) {p : Addr} {o : Obj} {u : HO} (h : H p = some (.frz o u)) (n : ¬ D p) : H1 p = some (.frz o u) := a p _ h n
theorem Kept.tab {D : Addr → Prop} {H H1 : Hp} (a : Kept D H H1) {p : Addr} (h : GxR.TabG H p) (n : ¬ D p) : GxR.TabG H1 p := by
  obtain ⟨ps, e, z⟩ := h
  obtain ⟨qs, e2, z2⟩ := a p _ e n
  exact ⟨qs, e2, z2 z⟩
theorem Kept.sql {K : PySem.W.Frag} {D : Addr → Prop} {H H1 : Hp} (a : Kept D H H1) {p : Addr} {xs : List V} (h : SqL K H p xs) (n : ¬ D p) : SqL K H1 p xs := by
  rcases h with (h | ⟨o, h⟩) | h
  · exact .inl (.inl (a.lst h n))
  · exact .inl (.inr ⟨o, a.frz h n⟩)
  · exact .inr h
theorem Kept.of_tabbed {P : Addr} {H H1 : Hp} (t : GxR.TabG H P) (h : GxR.Tabbed P H H1) : Kept None H H1 := fun b o e _ => by
  by_cases hb : b = P
  · subst hb
    obtain ⟨ps, e1, z1⟩ := t
    obtain ⟨⟨qs, e2, z2⟩, _⟩ := h
    rw [e1] at e
    cases e
    exact ⟨qs, e2, fun _ => z2⟩
  · rw [h.2 b hb, e]
    exact ko_refl o
end K12

set_option Elab.async false
set_option linter.all false
set_option maxRecDepth 100000
set_option maxHeartbeats 2000000
namespace K12
open PySem PySem.Spec PyProof.Rows L2
/-! ### the draws -/
abbrev sBegin : Stmt := top 30
abbrev sMixed : Stmt := top 31
abbrev sNext : Stmt := top 32
theorem scBegin : FnScope ["script"] ["script"] (defScope sBegin) := ⟨rfl, rfl, rfl, by decide +kernel, rfl, by decide +kernel, by decide +kernel⟩
theorem scMixed : FnScope ["cell", "k", "number"] ["cell", "k"] (defScope sMixed) := ⟨rfl, rfl, rfl, by decide +kernel, rfl, by decide +kernel, by decide +kernel⟩
theorem scNext : FnScope ["draw", "many", "found", "cells", "cell"] ["draw", "many"] (defScope sNext) := ⟨rfl, rfl, rfl, by decide +kernel, rfl, by decide +kernel, by decide +kernel⟩
/-- the draw's pairs -/
def drK (c : Addr) (a l u : Int) : List (Key × V) := [(.inr "cells", .ref c), (.inr "at", .int a), (.inr "left", .int l), (.inr "used", .int u)]
theorem kn {x y : PySem.Str} (h : ¬ x = y) : ¬ (Sum.inr x : Key) = Sum.inr y := fun e => h (Sum.inr.inj e)
theorem n1 : ¬ (("cells" : PySem.Str) = "at") := by decide +kernel
theorem n2 : ¬ (("cells" : PySem.Str) = "left") := by decide +kernel
theorem n3 : ¬ (("cells" : PySem.Str) = "used") := by decide +kernel
theorem n4 : ¬ (("at" : PySem.Str) = "left") := by decide +kernel
theorem n5 : ¬ (("at" : PySem.Str) = "used") := by decide +kernel
theorem n6 : ¬ (("left" : PySem.Str) = "used") := by decide +kernel
theorem g_cells (c : Addr) (a l u : Int) : valV (drK c a l u) (Sum.inr "cells" : Key) = some (.ref c) := valV_pos rfl
theorem g_at (c : Addr) (a l u : Int) : valV (drK c a l u) (Sum.inr "at" : Key) = some (.int a) := (valV_neg (kn n1)).trans (valV_pos rfl)
theorem g_left (c : Addr) (a l u : Int) : valV (drK c a l u) (Sum.inr "left" : Key) = some (.int l) := (valV_neg (kn n2)).trans ((valV_neg (kn n4)).trans (valV_pos rfl))
theorem g_used (c : Addr) (a l u : Int) : valV (drK c a l u) (Sum.inr "used" : Key) = some (.int u) := (valV_neg (kn n3)).trans ((valV_neg (kn n5)).trans ((valV_neg (kn n6)).trans (valV_pos rfl)))
theorem p_at (c : Addr) (a l u z : Int) : putK (drK c a l u) (Sum.inr "at" : Key) (.int z) = drK c z l u := by
  unfold putK
  rw [if_pos (by rw [valV_any, g_at]; rfl)]
  unfold drK
  simp only [List.map_cons, List.map_nil, if_neg (kn n1), if_pos rfl, if_neg (kn (fun e => n4 e.symm)), if_neg (kn (fun e => n5 e.symm))]
  rfl
theorem p_left (c : Addr) (a l u z : Int) : putK (drK c a l u) (Sum.inr "left" : Key) (.int z) = drK c a z u := by
  unfold putK
  rw [if_pos (by rw [valV_any, g_left]; rfl)]
  unfold drK
  simp only [List.map_cons, List.map_nil, if_neg (kn n2), if_pos rfl, if_neg (kn n4), if_neg (kn (fun e => n6 e.symm))]
  rfl
theorem p_used (c : Addr) (a l u z : Int) : putK (drK c a l u) (Sum.inr "used" : Key) (.int z) = drK c a l z := by
  unfold putK
  rw [if_pos (by rw [valV_any, g_used]; rfl)]
  unfold drK
  simp only [List.map_cons, List.map_nil, if_neg (kn n3), if_pos rfl, if_neg (kn n5), if_neg (kn n6)]
  rfl
/-- a draw at d, its cells at c, at most n numbers drawn -/
structure Dr (H : Hp) (d c : Addr) (ns : List Int) (n : Nat) : Prop where
  at_ : ∃ a l u : Int, H d = some (.dK (drK c a l u)) ∧ 0 ≤ a ∧ a ≤ (n : Int) ∧ 0 ≤ l ∧ 0 ≤ u ∧ u ≤ (n : Int)
  cs : H c = some (.lst (ns.map V.int))
  ne : 1 ≤ ns.length ∧ ns.length ≤ 64
theorem Dr.dc {H : Hp} {d c : Addr} {ns : List Int} {n : Nat} (D : Dr H d c ns n) : c ≠ d := by
  obtain ⟨a, l, u, h, _⟩ := D.at_
  exact ne_of D.cs h (by intro z; cases z)
/-- only the draw may change -/
abbrev At (d : Addr) : Addr → Prop := fun b => b = d
theorem Dr.stay {H H1 : Hp} {d c : Addr} {ns : List Int} {n : Nat} (D : Dr H d c ns n) (k : Kept None H H1) : Dr H1 d c ns n := by
  obtain ⟨a, l, u, h, r⟩ := D.at_
  exact ⟨⟨a, l, u, k.dK h (fun z => z), r⟩, k.lst D.cs (fun z => z), D.ne⟩
theorem Dr.more {H : Hp} {d c : Addr} {ns : List Int} {n m : Nat} (D : Dr H d c ns n) (h : n ≤ m) : Dr H d c ns m := by
  obtain ⟨a, l, u, e, h1, h2, h3, h4, h5⟩ := D.at_
  exact ⟨⟨a, l, u, e, h1, by omega, h3, h4, by omega⟩, D.cs, D.ne⟩
theorem Dr.new {H : Hp} {d c p : Addr} {o : HO} {ns : List Int} {n : Nat} (D : Dr H d c ns n) (h : H p = none) : Dr (upd H p o) d c ns n := D.stay (Kept.refl.new h)
/-- a new address is new for what stood ahead, too -/
theorem At.free {H H1 : Hp} {d c : Addr} {ns : List Int} {n : Nat} (k : Kept (At d) H H1) (D : Dr H1 d c ns n) {p : Addr} (h : H1 p = none) : H p = none := by
  cases e : H p with
  | none => rfl
  | some o =>
    have hp : ¬ p = d := fun z => by
      obtain ⟨a, l, u, q, _⟩ := D.at_
      rw [z, q] at h
      cases h
    obtain ⟨u, q⟩ := ko_some (k p o e hp)
    rw [h] at q
    cases q
def spBegin (K : PySem.W.Frag) : Sp := fun vs H Q _ => ∃ (a : Addr) (ns : List Int), vs = [.ref a] ∧ SqL K H a (ns.map V.int) ∧ ns.length ≤ 63 ∧ ∀ d c H', H d = none → Kept None H H' → Dr H' d c (ns ++ [0]) 0 → Q (.ref d) H'
def spMixed : Sp := fun vs H Q _ => ∃ (x k : Int), vs = [.int x, .int k] ∧ 0 ≤ k ∧ k ≤ 1152921504606846976 ∧ ∀ r : Int, 0 ≤ r → Q (.int r) H
def spNext : Sp := fun vs H Q _ => ∃ (d c : Addr) (ns : List Int) (n : Nat) (m : Int), vs = [.ref d, .int m] ∧ Dr H d c ns n ∧ n ≤ 1000000000 ∧ 1 ≤ m ∧ m < 1073741824 ∧ ∀ (r : Int) H', 0 ≤ r → r < m → Kept (At d) H H' → Dr H' d c ns (n + 1) → Q (.int r) H'
section
variable {P : Program} {w : World} {K : PySem.W.Frag} {mg : PySem.Str → Option Value} {base : Heap} {f fM fN : Addr} {fd fdM fdN : FuncData}
theorem ok_begin (F : FnP K "_law_begin" sBegin f fd) : FnOk P w K mg base CX0 1 f fd ["script"] (spBegin K) := by
  refine F.ok (k := 0) scBegin (fun vs H Q E h => ?_) (fun cdv A outer s H vs Q E hr h => ?_)
  · obtain ⟨a, ns, rfl, _⟩ := h
    rfl
  · obtain ⟨a, ns, rfl, hS, hl, q⟩ := h
    refine ⟨_, PSs.nox (pss_one (ps_ret (pe_disp (pps_cons pe_str (pe_op op_catR (pv 0) (pe_lst (pa_cons pe_int pa_nil))) (pps_cons pe_str pe_int (pps_cons pe_str pe_int (pps_cons pe_str pe_int pps_nil)))) (by rfl) (by rfl) (fun z => by cases z) (by decide)))), ?_⟩
    refine fun d hd => ⟨.ref a, rfl, by show 1 ≤ sizeLine; decide, fun b hb => ?_⟩
    have k1 : Kept None H (upd H d (.dK [])) := Kept.refl.new hd
    have k2 : Kept None (upd H d (.dK [])) (upd (upd H d (.dK [])) b (.lst [.int 0])) := Kept.refl.new hb
    refine ⟨a, b, ns.map V.int, [.int 0], rfl, rfl, (k1.trans k2).sql hS (fun z => z), upd_same, ?_, fun c hc => ?_⟩
    · rw [List.length_map, sizeLine_eq]
      simp only [List.length_cons, List.length_nil]
      omega
    · have hdb : d ≠ b := fun e => by
        rw [← e, upd_same] at hb
        cases hb
      have hdc : d ≠ c := fun e => by
        rw [← e, upd_ne hdb, upd_same] at hc
        cases hc
      have k3 : Kept None (upd (upd H d (.dK [])) b (.lst [.int 0])) (upd (upd (upd H d (.dK [])) b (.lst [.int 0])) c (.lst (ns.map V.int ++ [.int 0]))) := Kept.refl.new hc
      refine ⟨by rw [upd_ne hdc, upd_ne hdb, upd_same], drK c 0 0 0, rfl, by show 4 ≤ 15; decide, ?_⟩
      have em : mergeK [] (drK c 0 0 0) = drK c 0 0 0 := by
        unfold mergeK drK
        simp [putK, kn n1, kn n2, kn n3, kn n4, kn n5, kn n6, n1, n2, n3, n4, n5, n6]
      rw [em]
      refine q d c _ hd ?_ ⟨⟨0, 0, 0, upd_same, by omega, by omega, by omega, by omega, by omega⟩, ?_, by rw [List.length_append]; simp only [List.length_cons, List.length_nil]; omega⟩
      · intro x o e n
        have hx : x ≠ d := ne_of_none e hd
        rw [upd_ne hx]
        exact ((k1.trans k2).trans k3) x o e n
      · rw [upd_ne (Ne.symm hdc), upd_same, List.map_append]
        rfl
theorem ok_mixed (F : FnP K "_law_mixed" sMixed f fd) : FnOk P w K mg base CX0 1 f fd ["cell", "k"] spMixed := by
  refine F.ok (k := 0) scMixed (fun vs H Q E h => ?_) (fun cdv A outer s H vs Q E hr h => ?_)
  · obtain ⟨x, k, rfl, _⟩ := h
    rfl
  · obtain ⟨x, k, rfl, h0, h1, q⟩ := h
    refine ⟨_, PSs.nox (pss_cons (ps_set (i := 2) scMixed.nd rfl (Or.inl rfl) (pe_op op_mod (pe_op op_add (pe_op op_add (pe_op op_add (pe_op op_mod (pv 0) pe_int) (pe_op op_mul (pe_op op_mul pe_int (pv 1)) (pv 1))) (pe_op op_mul pe_int (pv 1))) pe_int) pe_int))
      (pss_cons (ps_set (i := 2) scMixed.nd rfl (Or.inl rfl) (pe_op op_mod (pe_op op_mul (pe_op op_mod (pe_op op_mul (pv 2) (pv 2)) pe_int) (pv 2)) pe_int))
      (pss_one (ps_ret (pe_op op_fdiv (pe_op op_mod (pe_op op_mul (pv 2) (pe_op op_add pe_int (pe_op op_mul pe_int (pe_op op_mod (pv 1) pe_int)))) pe_int) pe_int))))), ?_⟩
    refine ⟨.int x, rfl, x, 1000000007, rfl, rfl, (by show (0 : Int) < 1000000007; decide), .int k, rfl, 7919, k, rfl, rfl, .inl ⟨by decide, by decide⟩, .int k, rfl, _, k, rfl, rfl, .inr ⟨by omega, by omega⟩, _, _, rfl, rfl, .int k, rfl, 31, k, rfl, rfl, .inl ⟨by decide, by decide⟩, _, _, rfl, rfl, _, _, rfl, rfl, _, _, rfl, rfl, (by show (0 : Int) < 2147483647; decide), ?_⟩
    dsimp only
    generalize hy : (x % 1000000007 + 7919 * k * k + 31 * k + 7) % 2147483647 = y
    have y0 : 0 ≤ y := by rw [← hy]; exact Int.emod_nonneg _ (by decide)
    have y1 : y < 2147483647 := by rw [← hy]; exact Int.emod_lt_of_pos _ (by decide)
    refine ⟨.int y, rfl, .int y, rfl, y, y, rfl, rfl, .inl ⟨by omega, by omega⟩, _, _, rfl, rfl, (by show (0 : Int) < 2147483647; decide), .int y, rfl, _, y, rfl, rfl, .inr ⟨by omega, by omega⟩, _, _, rfl, rfl, (by show (0 : Int) < 2147483629; decide), ?_⟩
    dsimp only
    generalize hz : (y * y % 2147483647 * y) % 2147483629 = z
    have z0 : 0 ≤ z := by rw [← hz]; exact Int.emod_nonneg _ (by decide)
    have z1 : z < 2147483629 := by rw [← hz]; exact Int.emod_lt_of_pos _ (by decide)
    refine ⟨.int z, rfl, .int k, rfl, k, 1000, rfl, rfl, (by show (0 : Int) < 1000; decide), 2, _, rfl, rfl, .inl ⟨by decide, by decide⟩, _, _, rfl, rfl, z, _, rfl, rfl, .inl ⟨by omega, by omega⟩, _, _, rfl, rfl, (by show (0 : Int) < 2147483647; decide), _, _, rfl, rfl, ⟨by show (0 : Int) < 7; decide, by show (7 : Int) < 1073741824; decide⟩, ?_⟩
    exact q _ (Int.ediv_nonneg (Int.emod_nonneg _ (by decide)) (by decide))
end
end K12

set_option Elab.async false
set_option linter.all false
set_option maxRecDepth 100000
set_option maxHeartbeats 2000000
namespace K12
open PySem PySem.Spec PyProof.Rows L2
section
variable {H : Hp} {d c : Addr} {a l u z : Int}
theorem gd_cells (h : H d = some (.dK (drK c a l u))) : DGet H d (.str "cells") (some (.ref c)) := by rw [← g_cells c a l u]; exact DGet.k (k := Sum.inr "cells") h
theorem gd_at (h : H d = some (.dK (drK c a l u))) : DGet H d (.str "at") (some (.int a)) := by rw [← g_at c a l u]; exact DGet.k (k := Sum.inr "at") h
theorem gd_left (h : H d = some (.dK (drK c a l u))) : DGet H d (.str "left") (some (.int l)) := by rw [← g_left c a l u]; exact DGet.k (k := Sum.inr "left") h
theorem gd_used (h : H d = some (.dK (drK c a l u))) : DGet H d (.str "used") (some (.int u)) := by rw [← g_used c a l u]; exact DGet.k (k := Sum.inr "used") h
theorem four : (drK c a l u).length < sizeLine := by show 4 < sizeLine; decide
theorem pd_at (h : H d = some (.dK (drK c a l u))) : DPut H d (.str "at") (.int z) (upd H d (.dK (drK c z l u))) := by rw [← p_at c a l u z]; exact DPut.k (k := Sum.inr "at") h four
theorem pd_left (h : H d = some (.dK (drK c a l u))) : DPut H d (.str "left") (.int z) (upd H d (.dK (drK c a z u))) := by rw [← p_left c a l u z]; exact DPut.k (k := Sum.inr "left") h four
theorem pd_used (h : H d = some (.dK (drK c a l u))) : DPut H d (.str "used") (.int z) (upd H d (.dK (drK c a l z))) := by rw [← p_used c a l u z]; exact DPut.k (k := Sum.inr "used") h four
end
section
variable {P : Program} {w : World} {K : PySem.W.Frag} {mg : PySem.Str → Option Value} {base : Heap} {f fM fN : Addr} {fd fdM fdN : FuncData}
theorem ok_next (F : FnP K "_law_next" sNext f fd) (GM : FnOk P w K mg base CX0 1 fM fdM ["cell", "k"] spMixed) (bM : Binds K fdM ["cell", "k"] []) (kM : PySem.W.keepIn K (.ref fM) = true) (gM : mg "_law_mixed" = some (.ref fM)) (m1 : mg "len" = none) :
    FnOk P w K mg base CX0 2 f fd ["draw", "many"] spNext := by
  refine F.ok (k := 1) scNext (fun vs H Q E h => ?_) (fun cdv A outer s H vs Q E hr h => ?_)
  · obtain ⟨d, c, ns, n, m, rfl, _⟩ := h
    rfl
  · obtain ⟨d, c, ns, n, m, rfl, D, hn, m0, m1', q⟩ := h
    have hu := hu_of hr
    refine ⟨_, PSs.nox (pss_cons (ps_if (pt_cmpR op_gt (pe_dget hu (pv 0) pe_str (fun _ _ => rfl)) pe_int (nomark _))
        (pss_cons (ps_set (i := 2) scNext.nd rfl (Or.inl rfl) (pe_op op_mod (pe_dget hu (pv 0) pe_str (fun _ _ => rfl)) (pv 1)))
        (pss_cons (ps_dput hu (pv 0) pe_str (pe_op op_fdiv (pe_dget hu (pv 0) pe_str (fun _ _ => rfl)) (pv 1)) rfl)
        (pss_one (ps_ret (pv 2))))) pss_nil)
      (pss_cons (ps_set (i := 3) scNext.nd rfl (Or.inl rfl) (pe_dget hu (pv 0) pe_str (fun _ _ => rfl)))
      (pss_cons (ps_set (i := 4) scNext.nd rfl (Or.inl rfl) (pe_ix ix_list (pv 3) (pe_op op_mod (pe_dget hu (pv 0) pe_str (fun _ _ => rfl)) (pe_callB call_len_seq (by rfl) m1 PySem.boot_len (pa_cons (pv 3) pa_nil))) (fun _ _ => rfl)))
      (pss_cons (ps_dput hu (pv 0) pe_str (pe_op op_add (pe_dget hu (pv 0) pe_str (fun _ _ => rfl)) pe_int) rfl)
      (pss_cons (ps_if (PW.pt (pw_and (pt_cmpR op_ge (pv 4) (pe_op op_pow pe_int pe_int) (nomark _)) (pw_and1 (pt_cmpR op_le (pe_dget hu (pv 0) pe_str (fun _ _ => rfl)) (pe_callB call_len_seq (by rfl) m1 PySem.boot_len (pa_cons (pv 3) pa_nil)) (nomark _)))))
        (pss_cons (ps_dput hu (pv 0) pe_str (pe_op op_fdiv (pv 4) (pv 1)) rfl) (pss_one (ps_ret (pe_op op_mod (pv 4) (pv 1))))) pss_nil)
      (pss_cons (ps_dput hu (pv 0) pe_str (pe_op op_add (pe_dget hu (pv 0) pe_str (fun _ _ => rfl)) pe_int) rfl)
      (pss_one (ps_ret (pe_op op_mod (pe_call GM hr (by rfl) gM kM bM .nil pass0 (pa_cons (by exact (pe_call GM hr (by rfl) gM kM bM .nil pass0 (pa_cons (pv 4) (pa_cons (pe_dget hu (pv 0) pe_str (fun _ _ => rfl)) pa_nil)))) (pa_cons (pe_dget hu (pv 0) pe_str (fun _ _ => rfl)) pa_nil))) (pv 1)))))))))), ?_⟩
    obtain ⟨a, l, u, hd, a0, a1, l0, u0, u1⟩ := D.at_
    have dc := D.dc
    refine ⟨.ref d, rfl, d, .int l, rfl, gd_left hd, l, 0, rfl, rfl, _, rfl, ite2 (fun hl => ?_) (fun hl => ?_)⟩
    · have hl' : 0 < l := of_decide_eq_true hl
      refine ⟨.ref d, rfl, d, .int l, rfl, gd_left hd, .int m, rfl, l, m, rfl, rfl, (by show 0 < m; omega), ?_⟩
      refine ⟨.ref d, rfl, d, .int l, rfl, gd_left hd, .int m, rfl, l, m, rfl, rfl, ⟨by omega, by omega⟩, .ref d, rfl, d, _, rfl, pd_left hd, ?_⟩
      refine ⟨.int (l % m), rfl, ?_⟩
      refine q (l % m) _ (Int.emod_nonneg _ (by omega)) (Int.emod_lt_of_pos _ (by omega)) (Kept.refl.upd rfl) ⟨⟨a, l / m, u, upd_same, a0, by omega, Int.ediv_nonneg l0 (by omega), u0, by omega⟩, by rw [upd_ne dc]; exact D.cs, D.ne⟩
    · have hL : (ns.map V.int).length = ns.length := List.length_map ..
      obtain ⟨h1, h64⟩ := D.ne
      refine ⟨.ref d, rfl, d, .ref c, rfl, gd_cells hd, ?_⟩
      have j0 : 0 ≤ a % (ns.length : Int) := Int.emod_nonneg _ (by omega)
      have j1 : a % (ns.length : Int) < (ns.length : Int) := Int.emod_lt_of_pos _ (by omega)
      obtain ⟨j, hj⟩ : ∃ j : Nat, a % (ns.length : Int) = (j : Int) := ⟨(a % (ns.length : Int)).toNat, by omega⟩
      have hjl : j < ns.length := by omega
      have hat : atI (ns.map V.int) (a % (((ns.map V.int).length : Nat) : Int)) = some (.int ns[j]) := by
        rw [hL, hj]
        exact atI_nat (j := j) (by rw [List.getElem?_map, List.getElem?_eq_getElem hjl]; rfl)
      refine ⟨.ref c, rfl, .ref d, rfl, d, .int a, rfl, gd_at hd, .ref c, rfl, c, ns.map V.int, rfl, .inl (.inl (.inl D.cs)), a, _, rfl, rfl, (by rw [hL]; omega), c, ns.map V.int, _, .int ns[j], rfl, rfl, .inl (.inl D.cs), hat, ?_⟩
      refine ⟨.ref d, rfl, d, .int a, rfl, gd_at hd, a, 1, rfl, rfl, .ref d, rfl, d, _, rfl, pd_at hd, ?_⟩
      have hd1 : upd H d (.dK (drK c (a + 1) l u)) d = some (.dK (drK c (a + 1) l u)) := upd_same
      have hc1 : upd H d (.dK (drK c (a + 1) l u)) c = some (.lst (ns.map V.int)) := by rw [upd_ne dc]; exact D.cs
      have kk1 : Kept (At d) H (upd H d (.dK (drK c (a + 1) l u))) := Kept.refl.upd rfl
      generalize upd H d (.dK (drK c (a + 1) l u)) = H1 at hd1 hc1 kk1 ⊢
      -- the last way
      have last : tSeq (sDPut (tVar 0) (tC (.str "used")) (tOp (rI0 fun i j => .int (i + j)) (tDGet (tVar 0) (tC (.str "used"))) (tC (.int 1)))) (tRet (tOp (rI (fun _ j => 0 < j) fun i j => .int (i % j)) (tCall spMixed [] E0 (tCons (tCall spMixed [] E0 (tCons (tVar 4) (tCons (tDGet (tVar 0) (tC (.str "at"))) tNil))) (tCons (tDGet (tVar 0) (tC (.str "used"))) tNil))) (tVar 1)))
          { nx := fun _ H' => Q .non H', rt := Q } [some (.ref d), some (.int m), none, some (.ref c), some (.int ns[j])] H1 := by
        refine ⟨.ref d, rfl, d, .int u, rfl, gd_used hd1, u, 1, rfl, rfl, .ref d, rfl, d, _, rfl, pd_used hd1, ?_⟩
        have hd2 : upd H1 d (.dK (drK c (a + 1) l (u + 1))) d = some (.dK (drK c (a + 1) l (u + 1))) := upd_same
        have hc2 : upd H1 d (.dK (drK c (a + 1) l (u + 1))) c = some (.lst (ns.map V.int)) := by rw [upd_ne dc]; exact hc1
        have kk2 : Kept (At d) H (upd H1 d (.dK (drK c (a + 1) l (u + 1)))) := kk1.upd rfl
        generalize upd H1 d (.dK (drK c (a + 1) l (u + 1))) = H2 at hd2 hc2 kk2 ⊢
        refine ⟨.int ns[j], rfl, .ref d, rfl, d, .int (a + 1), rfl, gd_at hd2, ns[j], a + 1, rfl, by omega, by omega, fun r1 hr1 => ?_⟩
        refine ⟨.ref d, rfl, d, .int (u + 1), rfl, gd_used hd2, r1, u + 1, rfl, by omega, by omega, fun r2 hr2 => ?_⟩
        refine ⟨.int m, rfl, r2, m, rfl, rfl, (by show 0 < m; omega), ?_⟩
        exact q (r2 % m) H2 (Int.emod_nonneg _ (by omega)) (Int.emod_lt_of_pos _ (by omega)) kk2 ⟨⟨a + 1, l, u + 1, hd2, by omega, by omega, l0, by omega, by omega⟩, hc2, D.ne⟩
      refine ⟨.int ns[j], rfl, 10, 18, rfl, rfl, ⟨by decide, by decide, by decide⟩, ns[j], _, rfl, rfl, _, rfl, ite2 (fun hge => ?_) (fun hge => ?_)⟩
      · refine ⟨.ref d, rfl, d, .int (a + 1), rfl, gd_at hd1, .ref c, rfl, c, ns.map V.int, rfl, .inl (.inl (.inl hc1)), a + 1, _, rfl, rfl, _, rfl, ite2 (fun hle => ?_) (fun hle => ?_)⟩
        · have hbig : (10 : Int) ^ (18 : Int).toNat ≤ ns[j] := of_decide_eq_true hge
          have hpos : (0 : Int) ≤ ns[j] := Int.le_trans (by decide) hbig
          refine ⟨.int ns[j], rfl, .int m, rfl, ns[j], m, rfl, rfl, ⟨by omega, by omega⟩, .ref d, rfl, d, _, rfl, pd_left hd1, ?_⟩
          refine ⟨.int ns[j], rfl, .int m, rfl, ns[j], m, rfl, rfl, (by show 0 < m; omega), ?_⟩
          exact q (ns[j] % m) _ (Int.emod_nonneg _ (by omega)) (Int.emod_lt_of_pos _ (by omega)) (kk1.upd rfl) ⟨⟨a + 1, ns[j] / m, u, upd_same, by omega, by omega, Int.ediv_nonneg hpos (by omega), u0, by omega⟩, by rw [upd_ne dc]; exact hc1, D.ne⟩
        · exact last
      · exact iteF last
end
end K12

set_option Elab.async false
set_option linter.all false
set_option maxRecDepth 100000
set_option maxHeartbeats 2000000
namespace K12
open PySem PySem.Spec PyProof.Rows L2
section
variable {X : Cx}
/-- repr(x), x a list or a tuple -/
def rRepr (K : PySem.W.Frag) : List V → Hp → VK → Prop := fun xs H Q => ∃ (a : Addr) (d : PyData), xs = [.ref a] ∧ Dp K H (.ref a) d ∧ d.showable = true ∧ d.hasDict = false ∧ d.depth ≤ 100 ∧ d.shown.length ≤ sizeLine ∧ Q (.str d.shown) H
theorem call_reprL (hg : X.A.guards = some []) {k : Nat} (hr : Room k X.A) : CallR X (.builtin "repr") (rRepr X.K) := by
  intro pins s σ H xs us Q I r h
  obtain ⟨a, d, rfl, hD, hs, hn, h1, hz, q⟩ := h
  cases r with
  | cons rx rr =>
    cases rr
    cases rx
    obtain ⟨as, R⟩ := Dp.reads I d _ _ hD rfl
    refine repr_of_reads' R hs (fun z => by rw [hn] at z; cases z) hg (by have := hr.un; omega) (fun _ _ z => z) (fun h' u tk kp => ?_) hz
    exact ⟨.str d.shown, H, I.kept (t' := tk) kp, ⟨_, rfl⟩, q⟩
end
end K12

set_option Elab.async false
set_option linter.all false
set_option maxRecDepth 100000
set_option maxHeartbeats 2000000
namespace K12
open PySem PySem.Spec PyProof.Rows L2
/-! ### defs whose promise wants that no text of a thing is under way (repr) -/
structure FnG (P : Program) (w : World) (K : PySem.W.Frag) (mg : PySem.Str → Option Value) (base : Heap) (k : Nat) (f : Addr) (fd : FuncData) (ps : List PySem.Str) (sp : Sp) : Prop where
  len : ∀ vs H Q E, sp vs H Q E → vs.length = ps.length
  go : ∀ (A : Around) (outer : List Env) (s : Shared) (H : Hp) (ar : Args) (us : List Value) (vs : List V) (Q : VK) (E : XK), A.guards = some [] → Room k A → Env0 P w K mg base A outer s H → BindsTo s fd ar (ps.zip us) → Vals vs us → sp vs H Q E →
    codeAny (model P w) A (.call (.ref f) ar) (CR CX0 outer P w H s Q E) s
/-- by the body -/
theorem fnG_of {P : Program} {w : World} {K : PySem.W.Frag} {mg : PySem.Str → Option Value} {base : Heap} {x : PySem.Str} {st : Stmt} {f : Addr} {fd : FuncData} {N ps : List PySem.Str} {k : Nat} {sp : Sp} (F : FnP K x st f fd) (S : FnScope N ps (defScope st))
    (len : ∀ vs H Q E, sp vs H Q E → vs.length = ps.length)
    (body : ∀ (cdv : Value) (A : Around) (outer : List Env) (s : Shared) (H : Hp) (vs : List V) (Q : VK) (E : XK), A.guards = some [] → Room k (A.deeper (envOfC x (defScope st) s.heap.objs.size f cdv)) → sp vs H Q E →
      ∃ t, PSs (cxOf CX0 P w K mg base N x (defScope st) f cdv A outer s H E) (defBody st) t ∧ t { nx := fun _ H' => Q .non H', rt := Q } (start N vs) H) : FnG P w K mg base (k + 1) f fd ps sp := by
  obtain ⟨oc, od, dV, kV, doc, pm, an, cdv, ct, osl, rfl, look, code, _, _⟩ := F.ex
  refine ⟨len, fun A outer s H ar us vs Q E gd room e0 bnd rel spq => ?_⟩
  have inK : K.In s.heap := e0.mod.kin.keeps fun b o z => (e0.bs b o z).1
  have kinds : ∀ y ∈ ps.zip us, (defScope st).names.lookup y.1 = some .local ∨ ((defScope st).names.lookup y.1 = some .cell ∧ ((cellsFrom (s.heap.objs.size + 1) (defScope st).names []).lookup y.1).isSome = true) := by
    rintro ⟨n, v⟩ hy
    rcases S.par n (List.of_mem_zip hy).1 with z | z
    · exact .inl z
    · exact .inr ⟨z, PySem.W.cellsFrom_some _ _ _ (.inl z)⟩
  refine codeAny_call_function room.depth (inK _ _ look) rfl S.co S.gen rfl (PySem.W.codeRec_of inK code) (bnd _ _ _ _ ?_)
  refine wpAny_newFunctionEnv_cells S.kind kinds fun env ee s1 entered => ?_
  subst ee
  refine ⟨(e0.mod.nolimit.keeps fun b o z => (e0.bs b o z).1).keeps entered.toInCall.keep, codeAny_func ?_⟩
  obtain ⟨t, ht, z0⟩ := body cdv A outer s H vs Q E gd (room.deeper _) spq
  refine wpAny_mono (ht.run [] s1 (start N vs) H _ (inv_start S room.hd e0 (len _ _ _ _ spq) rel entered) z0) (fun fl s' out => ?_) fun _ _ z => z
  match fl, out with
  | .ret u, ⟨v, _, H', J, rv, z⟩ => exact ⟨v, H', J.os, J.bare, J.base, J.hok, rv, z⟩
  | .next, ⟨_, H', J, z⟩ => exact ⟨.non, H', J.os, J.bare, J.base, J.hok, rfl, z⟩
  | .brk, ⟨_, _, _, z⟩ => exact z.elim
  | .cont, ⟨_, _, _, z⟩ => exact z.elim
section
variable {X : Cx} {k : Nat} {f : Addr} {fd : FuncData} {ps : List PySem.Str} {sp : Sp} {E : XK} {x : PySem.Str} {p pos : Pos} {e : Expr} {es : List Expr} {t : TA}
/-- f(e, ..) -/
theorem pe_callG (F : FnG X.prog X.w X.K X.mg X.base k f fd ps sp) (gd : X.A.guards = some []) (room : Room k X.A) (gl : Gl X x) (gm : X.mg x = some (.ref f)) (kp : PySem.W.keepIn X.K (.ref f) = true) (bi : Binds X.K fd ps []) (px : Passes CX0 X E)
    (ha : PA X (e :: es) t) (db : (x == ("__debug__" : PySem.Str)) = false := by decide) (st : starEach (e :: es) X.env = (false, eval e X.env) :: starEach es X.env := by rfl) (pl : (backTo pos (starEach es X.env)).any (·.1) = false := by rfl) :
    PE X (.Call (.Name x p) (e :: es) [] pos) (tCall sp [] E t) := by
  refine ⟨fun pins s σ H Q I h => wpAny_Call_Name_kw (ld_glob I gl gm ?_ db)⟩
  refine PySem.W.callWith_K (h₀ := X.base) I.ok.mod.kin kp (thn (ha.run pos pins s σ H _ I h) fun us s1 ⟨vs, H1, I1, rel, z⟩ => ⟨I1.kIn, ?_⟩) st pl
  have z : sp (vs ++ []) H1 Q E := z
  rw [List.append_nil] at z
  have n1 : us.length = ps.length := (rel.length.symm).trans (F.len _ _ _ _ z)
  have bnd := bi s1 us I1.kIn (by rw [List.append_nil]; exact n1)
  rw [List.append_nil] at bnd
  refine wpAny_call (codeAny_mono (F.go X.A X.stack s1 H1 ⟨us, []⟩ us vs Q E gd room I1.env0 bnd rel z) fun r s' out => ?_)
  match r, out with
  | .error er, out => exact px pins σ H1 s1 er s' I1 out
  | .ok (.ret u), out => exact I1.after out
  | .ok .next, out => exact out.elim
  | .ok .brk, out => exact out.elim
  | .ok .cont, out => exact out.elim
end
/-- the law's own call -/
theorem goG {P : Program} {w : World} {K : PySem.W.Frag} {mg mb : PySem.Str → Option Value} {k : Nat} {f a : Addr} {fd : FuncData} {x : PySem.Str} {sp : Sp} {s : Shared} {us : List Value} {ns : List Int}
    (inK : K.In s.heap) (nG : s.heap.Ns mainGlobals mg) (nB : s.heap.Ns builtinsNs mb) (isB : ∀ y : PySem.Str, y ≠ "__name__" → mb y = bootBuiltins y) (lim : s.heap.NoLimit) (gens : s.gens = #[])
    (scr : s.heap.get? a = some { cls := .type "list", data := .seq us.toArray }) (iv : IntsAre us ns) (few : ns.length ≤ sizeLine) (room : Room k callerA)
    (F : ∀ base : Heap, K.In base → base.Ns mainGlobals mg → FnG P w K mg base k f fd [x] sp) (bi : ∀ (s : Shared) (u : Value), BindsTo s fd ⟨[u], []⟩ [(x, u)])
    (spq : ∀ H : Hp, Only H → SqL K H a (ns.map V.int) → sp [.ref a] H (fun v _ => v = .bl true) fun _ _ _ => False) :
    codeAny (model P w) callerA (.call (.ref f) ⟨[.ref a], []⟩) (fun r s' => r = .ok (.ret (.bool true)) ∧ OldK s.heap s'.heap ∧ s'.os = s.os ∧ AllBare s'.gens) s := by
  have main : ∀ H : Hp, Only H → SqL K H a (ns.map V.int) → HOk P w H s.heap → (∀ b, H b ≠ none → b = a ∧ K.lookup a = none) →
      codeAny (model P w) callerA (.call (.ref f) ⟨[.ref a], []⟩) (fun r s' => r = .ok (.ret (.bool true)) ∧ OldK s.heap s'.heap ∧ s'.os = s.os ∧ AllBare s'.gens) s := fun H only seq ok just => by
    have isNone : ∀ {b : Addr}, (b = a → K.lookup a = none → False) → H b = none := fun {b} no => by
      cases z : H b with
      | none => rfl
      | some u => exact (no (just b (by rw [z]; exact fun q => nomatch q)).1 (just b (by rw [z]; exact fun q => nomatch q)).2).elim
    have dictN : ∀ {b : Addr} {m : PySem.Str → Option Value}, s.heap.Ns b m → (hidT s.heap H).Ns b m := fun {b m} ⟨o, es, ep, at_, dat, more⟩ =>
      ⟨o, es, ep, hidT_get at_ (isNone fun eb _ => by
        subst eb
        have z := congrArg Obj.data (Option.some.inj (scr.symm.trans at_))
        have z' : Data.seq us.toArray _ = Data.dict es ep := z.trans dat
        cases z'), dat, more⟩
    have inK' : K.In (hidT s.heap H) := fun b o at_ => hidT_get (inK b o at_) (isNone fun eb no => by
      subst eb
      rw [no] at at_
      cases at_)
    have env : Env0 P w K mg (hidT s.heap H) callerA [] s H := by
      obtain ⟨mc, l1, l2⟩ := lim
      exact ⟨rfl, ⟨inK', dictN nG, ⟨mb, dictN nB, isB⟩, ⟨mc, dictN l1, l2⟩⟩, fun _ _ z => of_hidT z, Nat.le_of_eq (hidT_size _ _), trivial, fun b hb => (nomatch (show b ∈ ([] : List Addr) from hb)), ok, .of_eq gens⟩
    refine codeAny_mono ((F _ inK' (dictN nG)).go callerA [] s H ⟨[.ref a], []⟩ [.ref a] [.ref a] _ _ rfl room env (bi s (.ref a)) (.cons rfl .nil) (spq H only seq)) fun r s' out => ?_
    match r, out with
    | .error er, out => exact False.elim out
    | .ok .next, out => exact False.elim out
    | .ok .brk, out => exact False.elim out
    | .ok .cont, out => exact False.elim out
    | .ok (.ret u), ⟨v, H', os, bare, un, ok', rv, ev⟩ =>
      have ev' : v = .bl true := ev
      subst ev'
      obtain rfl : u = Value.bool true := rv
      refine ⟨rfl, OldK.of_keep fun b o at_ => ?_, os, bare⟩
      cases z : H b with
      | none => exact un.keep b o at_ z (fun q => (nomatch (show b ∈ ([] : List Addr) from q))) (fun q => nomatch q)
      | some u =>
        rcases only b with z' | ⟨ob, xs, z'⟩
        · rw [z] at z'
          cases z'
        · have one := (ok b _ z').1
          have two := (ok' b _ (un.frzs b ob _ z')).1
          rw [at_] at one
          cases one
          exact two
  have rel := vals_ints iv
  cases look : K.lookup a with
  | some o =>
    have eo := Option.some.inj (scr.symm.trans (inK a o look))
    subst eo
    exact main (fun _ => none) (fun _ => .inl rfl) (.inr ⟨_, us.toArray, _, look, rfl, rfl, rfl, by rw [List.size_toArray, iv.length]; exact few, by simpa using rel⟩) (fun b u z => by
      have z' : (none : Option HO) = some u := z
      cases z') fun b z => (z rfl).elim
  | none =>
    have on : ∀ b u, (if b = a then some (HO.frz { cls := .type "list", data := .seq us.toArray } (.lst (ns.map V.int))) else none) = some u → b = a ∧ u = HO.frz { cls := .type "list", data := .seq us.toArray } (.lst (ns.map V.int)) := fun b u z => by
      by_cases eb : b = a
      · rw [if_pos eb] at z
        exact ⟨eb, (Option.some.inj z).symm⟩
      · rw [if_neg eb] at z
        cases z
    refine main (fun b => if b = a then some (.frz { cls := .type "list", data := .seq us.toArray } (.lst (ns.map V.int))) else none) (fun b => ?_) (.inl (.inr ⟨_, if_pos rfl⟩)) (fun b u z => ?_) (fun b z => ?_)
    · by_cases eb : b = a
      · exact .inr ⟨_, _, if_pos eb⟩
      · exact .inl (if_neg eb)
    · obtain ⟨eb, eu⟩ := on b u z
      subst eb eu
      exact ⟨scr, by rw [List.length_map]; exact few, us, _, rel, scr⟩
    · by_cases eb : b = a
      · exact ⟨eb, look⟩
      · exact (z (if_neg eb)).elim
/-- the end -/
theorem walkG {l : PySem.W.OpenLaw} {n k : Nat} {q : Program} {loose : List PySem.Str} {XP : (PySem.Str → Option Value) → Heap → Prop} {YP : World → Heap → Prop} {d : DefRec} {x : PySem.Str} (most : l.most = some n) (small : n ≤ sizeLine) (nodf : d.params.defaults = []) (room : Room k callerA)
    (F : ∀ (w : World) (mg : PySem.Str → Option Value) (f : Addr) (h : Heap), YP w h → h.Ns mainGlobals mg → mg d.name = some (.ref f) → ∃ (K : PySem.W.Frag) (fd : FuncData) (sp : Sp), K.In h ∧ (∀ (s : Shared) (u : Value), BindsTo s fd ⟨[u], []⟩ [(x, u)]) ∧
      (∀ base : Heap, K.In base → base.Ns mainGlobals mg → FnG l.prog w K mg base k f fd [x] sp) ∧ ∀ (H : Hp) (a : Addr) (ns : List Int), ns.length ≤ n → SqL K H a (ns.map V.int) → sp [.ref a] H (fun v _ => v = .bl true) fun _ _ _ => False) :
    PySem.W.WalkO q loose XP YP l.row.toRowW d [] (fun f vs => PySem.call f vs) := by
  refine Att.attach_call most nodf fun w s0 s1 mg mb f o pm cd doc a us ns G Y _ _ _ hmg scr iv few gens => ?_
  obtain ⟨K, fd, sp, inK, bi, hF, spq⟩ := F w mg f _ Y G.T.g hmg
  exact goG inK G.T.g G.T.b G.T.builtins G.T.nolimit gens scr iv (Nat.le_trans few small) room hF bi fun H _ seq => spq H a ns few seq
end K12

set_option Elab.async false
set_option linter.all false
set_option maxRecDepth 100000
set_option maxHeartbeats 4000000
namespace K12
open PySem
/-! ### the mathematics -/
theorem bA (a b : Nat) : Builtin.bitAnd (a : Int) (b : Int) = ((a &&& b : Nat) : Int) := by
  rw [PyProof.Rows.bitAnd_pp (Int.natCast_nonneg a) (Int.natCast_nonneg b), Int.toNat_natCast, Int.toNat_natCast]
theorem bO (a b : Nat) : Builtin.bitOr (a : Int) (b : Int) = ((a ||| b : Nat) : Int) := by
  rw [Bits.bitOr_pp (Int.natCast_nonneg a) (Int.natCast_nonneg b), Int.toNat_natCast, Int.toNat_natCast]
theorem bX (a b : Nat) : Builtin.bitXor (a : Int) (b : Int) = ((a ^^^ b : Nat) : Int) := by
  rw [Bits.bitXor_pp (Int.natCast_nonneg a) (Int.natCast_nonneg b), Int.toNat_natCast, Int.toNat_natCast]
section
open PySem.Spec PyProof.Rows L2
variable {X : Cx}
def rAndN : R2 := fun x y H Q => ∃ n m : Nat, x = .int (n : Int) ∧ y = .int (m : Int) ∧ Q (.int ((n &&& m : Nat) : Int)) H
def rOrN : R2 := fun x y H Q => ∃ n m : Nat, x = .int (n : Int) ∧ y = .int (m : Int) ∧ Q (.int ((n ||| m : Nat) : Int)) H
def rXorN : R2 := fun x y H Q => ∃ n m : Nat, x = .int (n : Int) ∧ y = .int (m : Int) ∧ Q (.int ((n ^^^ m : Nat) : Int)) H
def rShlN : R2 := fun x y H Q => ∃ n k : Nat, x = .int (n : Int) ∧ y = .int (k : Int) ∧ (n ≤ 1073741824 ∧ k ≤ 1000000) ∧ Q (.int ((n * 2 ^ k : Nat) : Int)) H
def rBit : R2 := fun x y H Q => ∃ k : Nat, x = .int 1 ∧ y = .int (k : Int) ∧ k ≤ 1000000 ∧ Q (.int ((2 ^ k : Nat) : Int)) H
def rShrN : R2 := fun x y H Q => ∃ n k : Nat, x = .int (n : Int) ∧ y = .int (k : Int) ∧ Q (.int ((n >>> k : Nat) : Int)) H
def rEqN : R2 := fun x y H Q => ∃ n m : Nat, x = .int (n : Int) ∧ y = .int (m : Int) ∧ Q (.bl (decide (n = m))) H
def rLtN : R2 := fun x y H Q => ∃ n m : Nat, x = .int (n : Int) ∧ y = .int (m : Int) ∧ Q (.bl (decide (n < m))) H
def rGtN : R2 := fun x y H Q => ∃ n m : Nat, x = .int (n : Int) ∧ y = .int (m : Int) ∧ Q (.bl (decide (m < n))) H
def rSubN : R2 := fun x y H Q => ∃ n m : Nat, x = .int (n : Int) ∧ y = .int (m : Int) ∧ m ≤ n ∧ Q (.int ((n - m : Nat) : Int)) H
def rAddN : R2 := fun x y H Q => ∃ n m : Nat, x = .int (n : Int) ∧ y = .int (m : Int) ∧ Q (.int ((n + m : Nat) : Int)) H
theorem n_sub : OpR X (binaryOp .Sub) rSubN := op_subN
theorem n_add : OpR X (binaryOp .Add) rAddN := op_addN
theorem n_and : OpR X (binaryOp .BitAnd) rAndN := by
  intro pins s σ H x y v u Q I rx ry h
  obtain ⟨n, m, rfl, rfl, q⟩ := h
  rw [← bA] at q
  exact op_and pins s σ H _ _ v u Q I rx ry ⟨_, _, rfl, rfl, q⟩
theorem n_or : OpR X (binaryOp .BitOr) rOrN := by
  intro pins s σ H x y v u Q I rx ry h
  obtain ⟨n, m, rfl, rfl, q⟩ := h
  rw [← bO] at q
  exact op_or pins s σ H _ _ v u Q I rx ry ⟨_, _, rfl, rfl, q⟩
theorem n_xor : OpR X (binaryOp .BitXor) rXorN := by
  intro pins s σ H x y v u Q I rx ry h
  obtain ⟨n, m, rfl, rfl, q⟩ := h
  rw [← bX] at q
  exact op_xor pins s σ H _ _ v u Q I rx ry ⟨_, _, rfl, rfl, q⟩
theorem n_shl : OpR X (binaryOp .LShift) rShlN := by
  intro pins s σ H x y v u Q I rx ry h
  obtain ⟨n, k, rfl, rfl, ⟨c1, c2⟩, q⟩ := h
  have e : ((n * 2 ^ k : Nat) : Int) = (n : Int) * 2 ^ ((k : Int)).toNat := by rw [Int.toNat_natCast]; simp
  rw [e] at q
  exact op_shl pins s σ H _ _ v u Q I rx ry ⟨_, _, rfl, rfl, ⟨Int.natCast_nonneg k, by omega, by omega⟩, q⟩
theorem n_bit : OpR X (binaryOp .LShift) rBit := by
  intro pins s σ H x y v u Q I rx ry h
  obtain ⟨k, rfl, rfl, c, q⟩ := h
  have e : ((2 ^ k : Nat) : Int) = (1 : Int) * 2 ^ ((k : Int)).toNat := by rw [Int.toNat_natCast]; simp
  rw [e] at q
  exact op_shl pins s σ H _ _ v u Q I rx ry ⟨_, _, rfl, rfl, ⟨Int.natCast_nonneg k, by omega, by decide⟩, q⟩
theorem n_shr : OpR X (binaryOp .RShift) rShrN := by
  intro pins s σ H x y v u Q I rx ry h
  obtain ⟨n, k, rfl, rfl, q⟩ := h
  have e : ((n >>> k : Nat) : Int) = (n : Int) / 2 ^ ((k : Int)).toNat := by rw [Int.toNat_natCast, Nat.shiftRight_eq_div_pow]; simp
  rw [e] at q
  exact op_shr pins s σ H _ _ v u Q I rx ry ⟨_, _, rfl, rfl, Int.natCast_nonneg k, q⟩
theorem n_eq : OpR X (compareOp .Eq) rEqN := by
  intro pins s σ H x y v u Q I rx ry h
  obtain ⟨n, m, rfl, rfl, q⟩ := h
  refine op_eq pins s σ H _ _ v u Q I rx ry ⟨rfl, ?_⟩
  rw [show decide (V.int (n : Int) = V.int (m : Int)) = decide (n = m) from decide_eq_decide.mpr ⟨fun z => by have := V.int.inj z; omega, fun z => by rw [z]⟩]
  exact q
theorem n_lt : OpR X (compareOp .Lt) rLtN := by
  intro pins s σ H x y v u Q I rx ry h
  obtain ⟨n, m, rfl, rfl, q⟩ := h
  refine op_lt pins s σ H _ _ v u Q I rx ry ⟨_, _, rfl, rfl, ?_⟩
  show Q (.bl (decide ((n : Int) < (m : Int)))) H
  rw [show decide ((n : Int) < (m : Int)) = decide (n < m) from decide_eq_decide.mpr (by omega)]
  exact q
theorem n_gt : OpR X (compareOp .Gt) rGtN := by
  intro pins s σ H x y v u Q I rx ry h
  obtain ⟨n, m, rfl, rfl, q⟩ := h
  refine op_gt pins s σ H _ _ v u Q I rx ry ⟨_, _, rfl, rfl, ?_⟩
  show Q (.bl (decide ((m : Int) < (n : Int)))) H
  rw [show decide ((m : Int) < (n : Int)) = decide (m < n) from decide_eq_decide.mpr (by omega)]
  exact q
def rNeN : R2 := fun x y H Q => ∃ n m : Nat, x = .int (n : Int) ∧ y = .int (m : Int) ∧ Q (.bl (!decide (n = m))) H
theorem n_ne : OpR X (compareOp .NotEq) rNeN := by
  intro pins s σ H x y v u Q I rx ry h
  obtain ⟨n, m, rfl, rfl, q⟩ := h
  refine op_ne pins s σ H _ _ v u Q I rx ry ⟨rfl, ?_⟩
  rw [show decide (V.int (n : Int) = V.int (m : Int)) = decide (n = m) from decide_eq_decide.mpr ⟨fun z => by have := V.int.inj z; omega, fun z => by rw [z]⟩]
  exact q
def rGeN : R2 := fun x y H Q => ∃ n m : Nat, x = .int (n : Int) ∧ y = .int (m : Int) ∧ Q (.bl (decide (m ≤ n))) H
theorem n_ge : OpR X (compareOp .GtE) rGeN := by
  intro pins s σ H x y v u Q I rx ry h
  obtain ⟨n, m, rfl, rfl, q⟩ := h
  refine op_ge pins s σ H _ _ v u Q I rx ry ⟨_, _, rfl, rfl, ?_⟩
  show Q (.bl (decide ((m : Int) ≤ (n : Int)))) H
  rw [show decide ((m : Int) ≤ (n : Int)) = decide (m ≤ n) from decide_eq_decide.mpr (by omega)]
  exact q
def rLeN : R2 := fun x y H Q => ∃ n m : Nat, x = .int (n : Int) ∧ y = .int (m : Int) ∧ Q (.bl (decide (n ≤ m))) H
theorem n_le : OpR X (compareOp .LtE) rLeN := by
  intro pins s σ H x y v u Q I rx ry h
  obtain ⟨n, m, rfl, rfl, q⟩ := h
  refine op_le pins s σ H _ _ v u Q I rx ry ⟨_, _, rfl, rfl, ?_⟩
  show Q (.bl (decide ((n : Int) ≤ (m : Int)))) H
  rw [show decide ((n : Int) ≤ (m : Int)) = decide (n ≤ m) from decide_eq_decide.mpr (by omega)]
  exact q
/-- n & ~m -/
def rAndC : R2 := fun x y H Q => ∃ n m : Nat, x = .int (n : Int) ∧ y = .int (Builtin.bitNot (m : Int)) ∧ Q (.int ((n - (n &&& m) : Nat) : Int)) H
theorem bC (n m : Nat) : Builtin.bitAnd (n : Int) (Builtin.bitNot (m : Int)) = ((n - (n &&& m) : Nat) : Int) := by
  have h1 : decide ((0 : Int) ≤ (n : Int)) = true := decide_eq_true (Int.natCast_nonneg n)
  have h2 : decide ((0 : Int) ≤ Builtin.bitNot (m : Int)) = false := decide_eq_false (by unfold Builtin.bitNot; omega)
  have h3 : (Builtin.bitNot (Builtin.bitNot (m : Int))).toNat = m := by
    unfold Builtin.bitNot
    omega
  unfold Builtin.bitAnd
  rw [h1, h2]
  show (n : Int) - (((n : Int).toNat &&& (Builtin.bitNot (Builtin.bitNot (m : Int))).toNat : Nat) : Int) = _
  rw [h3, Int.toNat_natCast]
  have : n &&& m ≤ n := Nat.and_le_left
  omega
theorem n_andC : OpR X (binaryOp .BitAnd) rAndC := by
  intro pins s σ H x y v u Q I rx ry h
  obtain ⟨n, m, rfl, rfl, q⟩ := h
  rw [← bC] at q
  exact op_and pins s σ H _ _ v u Q I rx ry ⟨_, _, rfl, rfl, q⟩
def rAddE : R2 := fun x y H Q => ∃ i j k : Int, x = .int i ∧ y = .int j ∧ i + j = k ∧ Q (.int k) H
theorem op_addE : OpR X (binaryOp .Add) rAddE := by
  intro pins s σ H x y v u Q I rx ry h
  obtain ⟨i, j, k, rfl, rfl, rfl, q⟩ := h
  exact op_add pins s σ H _ _ v u Q I rx ry ⟨_, _, rfl, rfl, q⟩
def rModN : R2 := fun x y H Q => ∃ n m : Nat, x = .int (n : Int) ∧ y = .int (m : Int) ∧ 0 < m ∧ Q (.int ((n % m : Nat) : Int)) H
theorem n_mod : OpR X (binaryOp .Mod) rModN := by
  intro pins s σ H x y v u Q I rx ry h
  obtain ⟨n, m, rfl, rfl, c, q⟩ := h
  rw [Int.natCast_emod] at q
  exact op_mod pins s σ H _ _ v u Q I rx ry ⟨_, _, rfl, rfl, (by show (0 : Int) < (m : Int); omega), q⟩
def rMulN : R2 := fun x y H Q => ∃ n m : Nat, x = .int (n : Int) ∧ y = .int (m : Int) ∧ n ≤ 4294967296 ∧ Q (.int ((n * m : Nat) : Int)) H
theorem n_mul : OpR X (binaryOp .Mult) rMulN := op_mulN
end
end K12

set_option Elab.async false
set_option linter.all false
set_option maxRecDepth 100000
set_option maxHeartbeats 2000000
namespace K12
open PySem PySem.Spec PyProof.Rows L2
/-! ### helpers: what stays, facts as tuples -/
theorem Kept.sqt {K : PySem.W.Frag} {D : Addr → Prop} {H H1 : Hp} (a : Kept D H H1) {p : Addr} {xs : List V} (h : SqT K H p xs) (n : ¬ D p) : SqT K H1 p xs := by
  rcases h with (h | ⟨o, h⟩) | h
  · exact .inl (.inl (a.tup h n))
  · exact .inl (.inr ⟨o, a.frz h n⟩)
  · exact .inr h
theorem sqt_new {K : PySem.W.Frag} {H : Hp} {p b : Addr} {xs : List V} {o : HO} (h : SqT K H p xs) (n : H b = none) : SqT K (upd H b o) p xs := by
  rcases h with (h | ⟨o', h⟩) | h
  · exact .inl (.inl (by rw [upd_ne (ne_of_none h n)]; exact h))
  · exact .inl (.inr ⟨o', by rw [upd_ne (ne_of_none h n)]; exact h⟩)
  · exact .inr h
theorem sqt_upd {K : PySem.W.Frag} {H : Hp} {p b : Addr} {xs ys zs : List V} (h : SqT K H p xs) (e : H b = some (.lst ys)) : SqT K (upd H b (.lst zs)) p xs := by
  rcases h with (h | ⟨o', h⟩) | h
  · exact .inl (.inl (by rw [upd_ne (ne_of h e (by intro z; cases z))]; exact h))
  · exact .inl (.inr ⟨o', by rw [upd_ne (ne_of h e (by intro z; cases z))]; exact h⟩)
  · exact .inr h
theorem sql_new {K : PySem.W.Frag} {H : Hp} {p b : Addr} {xs : List V} {o : HO} (h : SqL K H p xs) (n : H b = none) : SqL K (upd H b o) p xs := by
  rcases h with (h | ⟨o', h⟩) | h
  · exact .inl (.inl (by rw [upd_ne (ne_of_none h n)]; exact h))
  · exact .inl (.inr ⟨o', by rw [upd_ne (ne_of_none h n)]; exact h⟩)
  · exact .inr h
theorem Kept.nu {H H1 : Hp} {d c p : Addr} {o : HO} {ns : List Int} {n : Nat} (k : Kept (At d) H H1) (D : Dr H1 d c ns n) (h : H1 p = none) : Kept (At d) H (L2.upd H1 p o) := k.new (At.free k D h)
def two (z o : Nat) : List V := [.int (z : Int), .int (o : Int)]
def twoF (f : Nat × Nat) : List V := two f.1 f.2
def most (w : Nat) : Nat := 2 ^ w - 1
theorem pow_bound {w : Nat} (h : w ≤ 12) : (2 : Nat) ^ w ≤ 4096 := Nat.pow_le_pow_right (by decide) h
theorem pow_pos' {w : Nat} : 1 ≤ (2 : Nat) ^ w := Nat.one_le_two_pow
theorem most_pow (w : Nat) : most w + 1 = 2 ^ w := by
  have := pow_pos' (w := w)
  unfold most
  omega
theorem dpTwo {K : PySem.W.Frag} {H : Hp} {p : Addr} {z o : Nat} (h : SqT K H p (two z o)) : Dp K H (.ref p) (.tuple [.int z, .int o]) := .tup h (.cons (.int _) (.cons (.int _) .nil))
def nums (l : List Nat) : List V := l.map fun n : Nat => V.int (n : Int)
def numsD (l : List Nat) : PyData := .list (l.map fun n : Nat => PyData.int (n : Int))
theorem dpNums {K : PySem.W.Frag} {H : Hp} : ∀ l : List Nat, DpAll K H (nums l) (l.map fun n : Nat => PyData.int (n : Int))
  | [] => .nil
  | x :: l => .cons (.int _) (dpNums l)
theorem small_log {i : Int} (h0 : 0 ≤ i) (h1 : i < 1000000000) : i.natAbs.log2 < 1920 := by
  by_cases h : i.natAbs = 0
  · rw [h]; decide
  · exact (Nat.log2_lt h).mpr (Nat.lt_of_lt_of_le (show i.natAbs < 2 ^ 30 by omega) (Nat.pow_le_pow_right (by decide) (by decide)))
theorem short_int {i : Int} (h0 : 0 ≤ i) (h1 : i < 1000000000) : (PyData.int i).leavesShort 2000 = true := by
  have e := int_text_len_1921 (small_log h0 h1)
  exact decide_eq_true (Nat.le_trans (show (PyData.shown (.int i)).length ≤ 1921 from e) (by decide))
theorem show_int {i : Int} (h0 : 0 ≤ i) (h1 : i < 1000000000) : (PyData.int i).showable = true := decide_eq_true (small_log h0 h1)
def dF (z o : Nat) : PyData := .tuple [.int z, .int o]
theorem dF_ok {z o : Nat} (hz : z < 5000) (ho : o < 5000) : (dF z o).showable = true ∧ (dF z o).shown.length ≤ sizeLine := by
  have a := short_int (i := (z : Int)) (by omega) (by omega)
  have b := short_int (i := (o : Int)) (by omega) (by omega)
  have c := show_int (i := (z : Int)) (by omega) (by omega)
  have d := show_int (i := (o : Int)) (by omega) (by omega)
  constructor
  · show (PyData.showable (PyData.int (z : Int)) && (PyData.showable (PyData.int (o : Int)) && true)) = true
    rw [c, d]; rfl
  · have e := PyData.shown_le_bulk 2000 (by decide) (dF z o) (by
      show (PyData.leavesShort 2000 (PyData.int (z : Int)) && (PyData.leavesShort 2000 (PyData.int (o : Int)) && true)) = true
      rw [a, b]; rfl)
    have f : (dF z o).bulk = 2 := rfl
    rw [f] at e
    rw [sizeLine_eq]
    omega
/-- a def that stands, with its promise -/
def Def (P : Program) (w : World) (K : PySem.W.Frag) (mg : PySem.Str → Option Value) (base : Heap) (k : Nat) (x : PySem.Str) (ps : List PySem.Str) (sp : Sp) : Prop := ∃ f fd, FnOk P w K mg base CX0 k f fd ps sp ∧ Binds K fd ps [] ∧ PySem.W.keepIn K (.ref f) = true ∧ mg x = some (.ref f)
def DefG (P : Program) (w : World) (K : PySem.W.Frag) (mg : PySem.Str → Option Value) (base : Heap) (k : Nat) (x : PySem.Str) (ps : List PySem.Str) (sp : Sp) : Prop := ∃ f fd, FnG P w K mg base k f fd ps sp ∧ Binds K fd ps [] ∧ PySem.W.keepIn K (.ref f) = true ∧ mg x = some (.ref f)
end K12

set_option Elab.async false
set_option linter.all false
set_option maxRecDepth 100000
set_option maxHeartbeats 2000000
namespace K12
open PySem PySem.Spec PyProof.Rows L2
/-! ### the program's bits: what comes of each expression -/
abbrev F2 : Type := Nat × Nat
def fCarried (m : Nat) (y z : F2) (c : Nat) : F2 :=
  let least := y.2 + z.2 + c
  let greatest := (m ^^^ y.1) + (m ^^^ z.1) + c
  let k0 := (y.1 ||| y.2) &&& (z.1 ||| z.2)
  let known := k0 - (k0 &&& (least ^^^ greatest))
  (known - (known &&& least), known &&& least)
def fSum (m : Nat) (y z : F2) : F2 := fCarried m y z 0
def fDiff (m : Nat) (y z : F2) : F2 := fCarried m y (z.2, z.1) 1
def fBoth (_ : Nat) (y z : F2) : F2 := (y.1 ||| z.1, y.2 &&& z.2)
def fEither (_ : Nat) (y z : F2) : F2 := (y.1 &&& z.1, y.2 ||| z.2)
def fUnlike (_ : Nat) (y z : F2) : F2 := ((y.1 &&& z.1) ||| (y.2 &&& z.2), (y.1 &&& z.2) ||| (y.2 &&& z.1))
def fTruth (m : Nat) (never always : Bool) : F2 := if never = true then (m, 0) else (m ^^^ 1, if always = true then 1 else 0)
def fSame (m : Nat) (y z : F2) : F2 := fTruth m (!decide ((y.1 &&& z.2) ||| (y.2 &&& z.1) = 0)) (decide ((y.1 &&& z.1) ||| (y.2 &&& z.2) = m))
def fBelow (m : Nat) (y z : F2) : F2 := fTruth m (decide (m ^^^ z.1 ≤ y.2)) (decide (m ^^^ y.1 < z.2))
def fUp (m : Nat) (y : F2) (k : Nat) : F2 := (((y.1 * 2 ^ k) ||| (2 ^ k - 1)) &&& m, (y.2 * 2 ^ k) &&& m)
def fDown (m : Nat) (y : F2) (k : Nat) : F2 := ((y.1 >>> k) ||| (m ^^^ (m >>> k)), y.2 >>> k)
def fCommon (y z : F2) : F2 := (y.1 &&& z.1, y.2 &&& z.2)
def fPick (m : Nat) (c y z : F2) : F2 := if c.2 ≠ 0 then y else if c.1 = m then z else fCommon y z
abbrev sCommon : Stmt := top 11
abbrev sNumberA : Stmt := top 14
abbrev sCopyA : Stmt := top 15
abbrev sSumA : Stmt := top 16
abbrev sDiffA : Stmt := top 17
abbrev sCarried : Stmt := top 18
abbrev sBothA : Stmt := top 19
abbrev sEitherA : Stmt := top 20
abbrev sUnlikeA : Stmt := top 21
abbrev sSameA : Stmt := top 22
abbrev sBelowA : Stmt := top 23
abbrev sTruth : Stmt := top 24
abbrev sUpA : Stmt := top 25
abbrev sDownA : Stmt := top 26
abbrev sPickA : Stmt := top 27
theorem scCommon : FnScope ["one", "other"] ["one", "other"] (defScope sCommon) := ⟨rfl, rfl, rfl, by decide +kernel, rfl, by decide +kernel, by decide +kernel⟩
theorem scNumberA : FnScope ["most", "n"] ["most", "n"] (defScope sNumberA) := ⟨rfl, rfl, rfl, by decide +kernel, rfl, by decide +kernel, by decide +kernel⟩
theorem scCopyA : FnScope ["most", "y"] ["most", "y"] (defScope sCopyA) := ⟨rfl, rfl, rfl, by decide +kernel, rfl, by decide +kernel, by decide +kernel⟩
theorem scSumA : FnScope ["most", "y", "z"] ["most", "y", "z"] (defScope sSumA) := ⟨rfl, rfl, rfl, by decide +kernel, rfl, by decide +kernel, by decide +kernel⟩
theorem scDiffA : FnScope ["most", "y", "z"] ["most", "y", "z"] (defScope sDiffA) := ⟨rfl, rfl, rfl, by decide +kernel, rfl, by decide +kernel, by decide +kernel⟩
theorem scCarried : FnScope ["most", "y", "z", "carry", "least", "greatest", "known"] ["most", "y", "z", "carry"] (defScope sCarried) := ⟨rfl, rfl, rfl, by decide +kernel, rfl, by decide +kernel, by decide +kernel⟩
theorem scBothA : FnScope ["most", "y", "z"] ["most", "y", "z"] (defScope sBothA) := ⟨rfl, rfl, rfl, by decide +kernel, rfl, by decide +kernel, by decide +kernel⟩
theorem scEitherA : FnScope ["most", "y", "z"] ["most", "y", "z"] (defScope sEitherA) := ⟨rfl, rfl, rfl, by decide +kernel, rfl, by decide +kernel, by decide +kernel⟩
theorem scUnlikeA : FnScope ["most", "y", "z"] ["most", "y", "z"] (defScope sUnlikeA) := ⟨rfl, rfl, rfl, by decide +kernel, rfl, by decide +kernel, by decide +kernel⟩
theorem scSameA : FnScope ["most", "y", "z", "never", "always"] ["most", "y", "z"] (defScope sSameA) := ⟨rfl, rfl, rfl, by decide +kernel, rfl, by decide +kernel, by decide +kernel⟩
theorem scBelowA : FnScope ["most", "y", "z", "never", "always"] ["most", "y", "z"] (defScope sBelowA) := ⟨rfl, rfl, rfl, by decide +kernel, rfl, by decide +kernel, by decide +kernel⟩
theorem scTruth : FnScope ["most", "never", "always"] ["most", "never", "always"] (defScope sTruth) := ⟨rfl, rfl, rfl, by decide +kernel, rfl, by decide +kernel, by decide +kernel⟩
theorem scUpA : FnScope ["most", "y", "k", "come_in"] ["most", "y", "k"] (defScope sUpA) := ⟨rfl, rfl, rfl, by decide +kernel, rfl, by decide +kernel, by decide +kernel⟩
theorem scDownA : FnScope ["most", "y", "k", "come_in"] ["most", "y", "k"] (defScope sDownA) := ⟨rfl, rfl, rfl, by decide +kernel, rfl, by decide +kernel, by decide +kernel⟩
theorem scPickA : FnScope ["most", "c", "y", "z"] ["most", "c", "y", "z"] (defScope sPickA) := ⟨rfl, rfl, rfl, by decide +kernel, rfl, by decide +kernel, by decide +kernel⟩
/-- facts are handed back: a tuple, perhaps one that stood there -/
def Gives (K : PySem.W.Frag) (H : Hp) (Q : VK) (f : F2) : Prop := ∀ (t : Addr) (H' : Hp), Kept None H H' → SqT K H' t (twoF f) → Q (.ref t) H'
theorem Gives.new {K : PySem.W.Frag} {H : Hp} {Q : VK} {f : F2} (q : Gives K H Q f) {t : Addr} (h : H t = none) : Q (.ref t) (upd H t (.tup [.int (f.1 : Int), .int (f.2 : Int)])) := q t _ (Kept.refl.new h) (SqT.of upd_same)
def spCommon (K : PySem.W.Frag) : Sp := fun vs H Q _ => ∃ (p r : Addr) (y z : F2), vs = [.ref p, .ref r] ∧ SqT K H p (twoF y) ∧ SqT K H r (twoF z) ∧ Gives K H Q (fCommon y z)
def spNum (K : PySem.W.Frag) : Sp := fun vs H Q _ => ∃ m n : Nat, vs = [.int (m : Int), .int (n : Int)] ∧ Gives K H Q (m ^^^ n, n)
def spCopy (K : PySem.W.Frag) : Sp := fun vs H Q _ => ∃ (m : Nat) (p : Addr) (y : F2), vs = [.int (m : Int), .ref p] ∧ SqT K H p (twoF y) ∧ Gives K H Q y
def spTwo (K : PySem.W.Frag) (g : Nat → F2 → F2 → F2) : Sp := fun vs H Q _ => ∃ (m : Nat) (p r : Addr) (y z : F2), vs = [.int (m : Int), .ref p, .ref r] ∧ SqT K H p (twoF y) ∧ SqT K H r (twoF z) ∧ Gives K H Q (g m y z)
def spCarried (K : PySem.W.Frag) : Sp := fun vs H Q _ => ∃ (m : Nat) (p r : Addr) (y z : F2) (c : Nat), vs = [.int (m : Int), .ref p, .ref r, .int (c : Int)] ∧ SqT K H p (twoF y) ∧ SqT K H r (twoF z) ∧ Gives K H Q (fCarried m y z c)
def spTruth (K : PySem.W.Frag) : Sp := fun vs H Q _ => ∃ (m : Nat) (a b : Bool), vs = [.int (m : Int), .bl a, .bl b] ∧ Gives K H Q (fTruth m a b)
def spShift (K : PySem.W.Frag) (g : Nat → F2 → Nat → F2) : Sp := fun vs H Q _ => ∃ (m : Nat) (p : Addr) (y : F2) (k : Nat), vs = [.int (m : Int), .ref p, .int (k : Int)] ∧ SqT K H p (twoF y) ∧ y.1 < 5000 ∧ y.2 < 5000 ∧ k ≤ 100 ∧ Gives K H Q (g m y k)
def spPick (K : PySem.W.Frag) : Sp := fun vs H Q _ => ∃ (m : Nat) (p r t : Addr) (c y z : F2), vs = [.int (m : Int), .ref p, .ref r, .ref t] ∧ SqT K H p (twoF c) ∧ SqT K H r (twoF y) ∧ SqT K H t (twoF z) ∧ Gives K H Q (fPick m c y z)
section
variable {P : Program} {w : World} {K : PySem.W.Frag} {mg : PySem.Str → Option Value} {base : Heap} {f : Addr} {fd : FuncData}
theorem ok_common (F : FnP K "common_facts" sCommon f fd) : FnOk P w K mg base CX0 1 f fd ["one", "other"] (spCommon K) := by
  refine F.ok (k := 0) scCommon (fun vs H Q E h => ?_) (fun cdv A outer s H vs Q E hr h => ?_)
  · obtain ⟨p, r, y, z, rfl, _⟩ := h
    rfl
  · obtain ⟨p, r, y, z, rfl, h1, h2, q⟩ := h
    refine ⟨_, PSs.nox (pss_one (ps_ret (pe_tup (pa_cons (pe_op n_and (pe_ix ix_tup (pv 0) pe_int (fun _ _ => rfl)) (pe_ix ix_tup (pv 1) pe_int (fun _ _ => rfl))) (pa_cons (pe_op n_and (pe_ix ix_tup (pv 0) pe_int (fun _ _ => rfl)) (pe_ix ix_tup (pv 1) pe_int (fun _ _ => rfl))) pa_nil))))), ?_⟩
    exact ⟨.ref p, rfl, p, twoF y, 0, .int y.1, rfl, rfl, h1, atI_nat (j := 0) rfl, .ref r, rfl, r, twoF z, 0, .int z.1, rfl, rfl, h2, atI_nat (j := 0) rfl, y.1, z.1, rfl, rfl,
      .ref p, rfl, p, twoF y, 1, .int y.2, rfl, rfl, h1, atI_nat (j := 1) rfl, .ref r, rfl, r, twoF z, 1, .int z.2, rfl, rfl, h2, atI_nat (j := 1) rfl, y.2, z.2, rfl, rfl, by show 2 ≤ sizeLine; decide, fun t ht => q.new ht⟩
theorem ok_number (F : FnP K "_number" sNumberA f fd) : FnOk P w K mg base CX0 1 f fd ["most", "n"] (spNum K) := by
  refine F.ok (k := 0) scNumberA (fun vs H Q E h => ?_) (fun cdv A outer s H vs Q E hr h => ?_)
  · obtain ⟨m, n, rfl, _⟩ := h
    rfl
  · obtain ⟨m, n, rfl, q⟩ := h
    refine ⟨_, PSs.nox (pss_one (ps_ret (pe_tup (pa_cons (pe_op n_xor (pv 0) (pv 1)) (pa_cons (pv 1) pa_nil))))), ?_⟩
    exact ⟨.int m, rfl, .int n, rfl, m, n, rfl, rfl, .int n, rfl, by show 2 ≤ sizeLine; decide, fun t ht => q.new ht⟩
theorem ok_copy (F : FnP K "_copy" sCopyA f fd) : FnOk P w K mg base CX0 1 f fd ["most", "y"] (spCopy K) := by
  refine F.ok (k := 0) scCopyA (fun vs H Q E h => ?_) (fun cdv A outer s H vs Q E hr h => ?_)
  · obtain ⟨m, p, y, rfl, _⟩ := h
    rfl
  · obtain ⟨m, p, y, rfl, h1, q⟩ := h
    refine ⟨_, PSs.nox (pss_one (ps_ret (pv 1))), ?_⟩
    exact ⟨.ref p, rfl, q p H Kept.refl h1⟩
theorem ok_carried (F : FnP K "_carried" sCarried f fd) : FnOk P w K mg base CX0 1 f fd ["most", "y", "z", "carry"] (spCarried K) := by
  refine F.ok (k := 0) scCarried (fun vs H Q E h => ?_) (fun cdv A outer s H vs Q E hr h => ?_)
  · obtain ⟨m, p, r, y, z, c, rfl, _⟩ := h
    rfl
  · obtain ⟨m, p, r, y, z, c, rfl, h1, h2, q⟩ := h
    refine ⟨_, PSs.nox (pss_cons (ps_set (i := 4) scCarried.nd rfl (Or.inl rfl) (pe_op n_add (pe_op n_add (pe_ix ix_tup (pv 1) pe_int (fun _ _ => rfl)) (pe_ix ix_tup (pv 2) pe_int (fun _ _ => rfl))) (pv 3)))
      (pss_cons (ps_set (i := 5) scCarried.nd rfl (Or.inl rfl) (pe_op n_add (pe_op n_add (pe_op n_xor (pv 0) (pe_ix ix_tup (pv 1) pe_int (fun _ _ => rfl))) (pe_op n_xor (pv 0) (pe_ix ix_tup (pv 2) pe_int (fun _ _ => rfl)))) (pv 3)))
      (pss_cons (ps_set (i := 6) scCarried.nd rfl (Or.inl rfl) (pe_op n_andC (pe_op n_and (pe_op n_or (pe_ix ix_tup (pv 1) pe_int (fun _ _ => rfl)) (pe_ix ix_tup (pv 1) pe_int (fun _ _ => rfl))) (pe_op n_or (pe_ix ix_tup (pv 2) pe_int (fun _ _ => rfl)) (pe_ix ix_tup (pv 2) pe_int (fun _ _ => rfl)))) (pe_un un_inv (pe_op n_xor (pv 4) (pv 5)))))
      (pss_one (ps_ret (pe_tup (pa_cons (pe_op n_andC (pv 6) (pe_un un_inv (pv 4))) (pa_cons (pe_op n_and (pv 6) (pv 4)) pa_nil)))))))), ?_⟩
    refine ⟨.ref p, rfl, p, twoF y, 1, .int y.2, rfl, rfl, h1, atI_nat (j := 1) rfl, .ref r, rfl, r, twoF z, 1, .int z.2, rfl, rfl, h2, atI_nat (j := 1) rfl, y.2, z.2, rfl, rfl, .int c, rfl, y.2 + z.2, c, rfl, rfl, ?_⟩
    refine ⟨.int m, rfl, .ref p, rfl, p, twoF y, 0, .int y.1, rfl, rfl, h1, atI_nat (j := 0) rfl, m, y.1, rfl, rfl, .int m, rfl, .ref r, rfl, r, twoF z, 0, .int z.1, rfl, rfl, h2, atI_nat (j := 0) rfl, m, z.1, rfl, rfl, m ^^^ y.1, m ^^^ z.1, rfl, rfl, .int c, rfl, (m ^^^ y.1) + (m ^^^ z.1), c, rfl, rfl, ?_⟩
    refine ⟨.ref p, rfl, p, twoF y, 0, .int y.1, rfl, rfl, h1, atI_nat (j := 0) rfl, .ref p, rfl, p, twoF y, 1, .int y.2, rfl, rfl, h1, atI_nat (j := 1) rfl, y.1, y.2, rfl, rfl, .ref r, rfl, r, twoF z, 0, .int z.1, rfl, rfl, h2, atI_nat (j := 0) rfl, .ref r, rfl, r, twoF z, 1, .int z.2, rfl, rfl, h2, atI_nat (j := 1) rfl, z.1, z.2, rfl, rfl, y.1 ||| y.2, z.1 ||| z.2, rfl, rfl,
      _, rfl, _, rfl, y.2 + z.2 + c, (m ^^^ y.1) + (m ^^^ z.1) + c, rfl, rfl, (((y.2 + z.2 + c) ^^^ ((m ^^^ y.1) + (m ^^^ z.1) + c) : Nat) : Int), rfl, (y.1 ||| y.2) &&& (z.1 ||| z.2), (y.2 + z.2 + c) ^^^ ((m ^^^ y.1) + (m ^^^ z.1) + c), rfl, rfl, ?_⟩
    refine ⟨_, rfl, _, rfl, ((y.2 + z.2 + c : Nat) : Int), rfl, _, y.2 + z.2 + c, rfl, rfl, _, rfl, _, rfl, _, y.2 + z.2 + c, rfl, rfl, by show 2 ≤ sizeLine; decide, fun t ht => ?_⟩
    exact Gives.new (f := fCarried m y z c) q ht
end
end K12

set_option Elab.async false
set_option linter.all false
set_option maxRecDepth 100000
set_option maxHeartbeats 2000000
namespace K12
open PySem PySem.Spec PyProof.Rows L2
section
variable {P : Program} {w : World} {K : PySem.W.Frag} {mg : PySem.Str → Option Value} {base : Heap} {f fC : Addr} {fd fdC : FuncData}
theorem ok_sum (F : FnP K "_sum" sSumA f fd) (G : FnOk P w K mg base CX0 1 fC fdC ["most", "y", "z", "carry"] (spCarried K)) (bC : Binds K fdC ["most", "y", "z", "carry"] []) (kC : PySem.W.keepIn K (.ref fC) = true) (gC : mg "_carried" = some (.ref fC)) : FnOk P w K mg base CX0 2 f fd ["most", "y", "z"] (spTwo K fSum) := by
  refine F.ok (k := 1) scSumA (fun vs H Q E h => ?_) (fun cdv A outer s H vs Q E hr h => ?_)
  · obtain ⟨m, p, r, y, z, rfl, _⟩ := h
    rfl
  · obtain ⟨m, p, r, y, z, rfl, h1, h2, q⟩ := h
    refine ⟨_, PSs.nox (pss_one (ps_ret (pe_call G hr (by rfl) gC kC bC .nil pass0 (pa_cons (pv 0) (pa_cons (pv 1) (pa_cons (pv 2) (pa_cons pe_int pa_nil))))))), ?_⟩
    exact ⟨.int m, rfl, .ref p, rfl, .ref r, rfl, m, p, r, y, z, 0, rfl, h1, h2, q⟩
theorem ok_diff (F : FnP K "_difference" sDiffA f fd) (G : FnOk P w K mg base CX0 1 fC fdC ["most", "y", "z", "carry"] (spCarried K)) (bC : Binds K fdC ["most", "y", "z", "carry"] []) (kC : PySem.W.keepIn K (.ref fC) = true) (gC : mg "_carried" = some (.ref fC)) : FnOk P w K mg base CX0 2 f fd ["most", "y", "z"] (spTwo K fDiff) := by
  refine F.ok (k := 1) scDiffA (fun vs H Q E h => ?_) (fun cdv A outer s H vs Q E hr h => ?_)
  · obtain ⟨m, p, r, y, z, rfl, _⟩ := h
    rfl
  · obtain ⟨m, p, r, y, z, rfl, h1, h2, q⟩ := h
    refine ⟨_, PSs.nox (pss_one (ps_ret (pe_call G hr (by rfl) gC kC bC .nil pass0 (pa_cons (pv 0) (pa_cons (pv 1) (pa_cons (pe_tup (pa_cons (pe_ix ix_tup (pv 2) pe_int (fun _ _ => rfl)) (pa_cons (pe_ix ix_tup (pv 2) pe_int (fun _ _ => rfl)) pa_nil))) (pa_cons pe_int pa_nil))))))), ?_⟩
    refine ⟨.int m, rfl, .ref p, rfl, .ref r, rfl, r, twoF z, 1, .int z.2, rfl, rfl, h2, atI_nat (j := 1) rfl, .ref r, rfl, r, twoF z, 0, .int z.1, rfl, rfl, h2, atI_nat (j := 0) rfl, by show 2 ≤ sizeLine; decide, fun t ht => ?_⟩
    exact ⟨m, p, t, y, (z.2, z.1), 1, rfl, sqt_new h1 ht, SqT.of upd_same, fun t2 H' k e => q t2 H' ((Kept.refl.new ht).trans k) e⟩
theorem ok_both (F : FnP K "_both" sBothA f fd) : FnOk P w K mg base CX0 1 f fd ["most", "y", "z"] (spTwo K fBoth) := by
  refine F.ok (k := 0) scBothA (fun vs H Q E h => ?_) (fun cdv A outer s H vs Q E hr h => ?_)
  · obtain ⟨m, p, r, y, z, rfl, _⟩ := h
    rfl
  · obtain ⟨m, p, r, y, z, rfl, h1, h2, q⟩ := h
    refine ⟨_, PSs.nox (pss_one (ps_ret (pe_tup (pa_cons (pe_op n_or (pe_ix ix_tup (pv 1) pe_int (fun _ _ => rfl)) (pe_ix ix_tup (pv 2) pe_int (fun _ _ => rfl))) (pa_cons (pe_op n_and (pe_ix ix_tup (pv 1) pe_int (fun _ _ => rfl)) (pe_ix ix_tup (pv 2) pe_int (fun _ _ => rfl))) pa_nil))))), ?_⟩
    exact ⟨.ref p, rfl, p, twoF y, 0, .int y.1, rfl, rfl, h1, atI_nat (j := 0) rfl, .ref r, rfl, r, twoF z, 0, .int z.1, rfl, rfl, h2, atI_nat (j := 0) rfl, y.1, z.1, rfl, rfl,
      .ref p, rfl, p, twoF y, 1, .int y.2, rfl, rfl, h1, atI_nat (j := 1) rfl, .ref r, rfl, r, twoF z, 1, .int z.2, rfl, rfl, h2, atI_nat (j := 1) rfl, y.2, z.2, rfl, rfl, by show 2 ≤ sizeLine; decide, fun t ht => Gives.new (f := fBoth m y z) q ht⟩
theorem ok_either (F : FnP K "_either" sEitherA f fd) : FnOk P w K mg base CX0 1 f fd ["most", "y", "z"] (spTwo K fEither) := by
  refine F.ok (k := 0) scEitherA (fun vs H Q E h => ?_) (fun cdv A outer s H vs Q E hr h => ?_)
  · obtain ⟨m, p, r, y, z, rfl, _⟩ := h
    rfl
  · obtain ⟨m, p, r, y, z, rfl, h1, h2, q⟩ := h
    refine ⟨_, PSs.nox (pss_one (ps_ret (pe_tup (pa_cons (pe_op n_and (pe_ix ix_tup (pv 1) pe_int (fun _ _ => rfl)) (pe_ix ix_tup (pv 2) pe_int (fun _ _ => rfl))) (pa_cons (pe_op n_or (pe_ix ix_tup (pv 1) pe_int (fun _ _ => rfl)) (pe_ix ix_tup (pv 2) pe_int (fun _ _ => rfl))) pa_nil))))), ?_⟩
    exact ⟨.ref p, rfl, p, twoF y, 0, .int y.1, rfl, rfl, h1, atI_nat (j := 0) rfl, .ref r, rfl, r, twoF z, 0, .int z.1, rfl, rfl, h2, atI_nat (j := 0) rfl, y.1, z.1, rfl, rfl,
      .ref p, rfl, p, twoF y, 1, .int y.2, rfl, rfl, h1, atI_nat (j := 1) rfl, .ref r, rfl, r, twoF z, 1, .int z.2, rfl, rfl, h2, atI_nat (j := 1) rfl, y.2, z.2, rfl, rfl, by show 2 ≤ sizeLine; decide, fun t ht => Gives.new (f := fEither m y z) q ht⟩
theorem ok_unlike (F : FnP K "_unlike" sUnlikeA f fd) : FnOk P w K mg base CX0 1 f fd ["most", "y", "z"] (spTwo K fUnlike) := by
  refine F.ok (k := 0) scUnlikeA (fun vs H Q E h => ?_) (fun cdv A outer s H vs Q E hr h => ?_)
  · obtain ⟨m, p, r, y, z, rfl, _⟩ := h
    rfl
  · obtain ⟨m, p, r, y, z, rfl, h1, h2, q⟩ := h
    refine ⟨_, PSs.nox (pss_one (ps_ret (pe_tup (pa_cons (pe_op n_or (pe_op n_and (pe_ix ix_tup (pv 1) pe_int (fun _ _ => rfl)) (pe_ix ix_tup (pv 2) pe_int (fun _ _ => rfl))) (pe_op n_and (pe_ix ix_tup (pv 1) pe_int (fun _ _ => rfl)) (pe_ix ix_tup (pv 2) pe_int (fun _ _ => rfl)))) (pa_cons (pe_op n_or (pe_op n_and (pe_ix ix_tup (pv 1) pe_int (fun _ _ => rfl)) (pe_ix ix_tup (pv 2) pe_int (fun _ _ => rfl))) (pe_op n_and (pe_ix ix_tup (pv 1) pe_int (fun _ _ => rfl)) (pe_ix ix_tup (pv 2) pe_int (fun _ _ => rfl)))) pa_nil))))), ?_⟩
    exact ⟨.ref p, rfl, p, twoF y, 0, .int y.1, rfl, rfl, h1, atI_nat (j := 0) rfl, .ref r, rfl, r, twoF z, 0, .int z.1, rfl, rfl, h2, atI_nat (j := 0) rfl, y.1, z.1, rfl, rfl,
      .ref p, rfl, p, twoF y, 1, .int y.2, rfl, rfl, h1, atI_nat (j := 1) rfl, .ref r, rfl, r, twoF z, 1, .int z.2, rfl, rfl, h2, atI_nat (j := 1) rfl, y.2, z.2, rfl, rfl, y.1 &&& z.1, y.2 &&& z.2, rfl, rfl,
      .ref p, rfl, p, twoF y, 0, .int y.1, rfl, rfl, h1, atI_nat (j := 0) rfl, .ref r, rfl, r, twoF z, 1, .int z.2, rfl, rfl, h2, atI_nat (j := 1) rfl, y.1, z.2, rfl, rfl,
      .ref p, rfl, p, twoF y, 1, .int y.2, rfl, rfl, h1, atI_nat (j := 1) rfl, .ref r, rfl, r, twoF z, 0, .int z.1, rfl, rfl, h2, atI_nat (j := 0) rfl, y.2, z.1, rfl, rfl, y.1 &&& z.2, y.2 &&& z.1, rfl, rfl,
      by show 2 ≤ sizeLine; decide, fun t ht => Gives.new (f := fUnlike m y z) q ht⟩
theorem ok_truth (F : FnP K "_truth" sTruth f fd) : FnOk P w K mg base CX0 1 f fd ["most", "never", "always"] (spTruth K) := by
  refine F.ok (k := 0) scTruth (fun vs H Q E h => ?_) (fun cdv A outer s H vs Q E hr h => ?_)
  · obtain ⟨m, a, b, rfl, _⟩ := h
    rfl
  · obtain ⟨m, a, b, rfl, q⟩ := h
    refine ⟨_, PSs.nox (pss_cons (ps_if (pt_val (pv 1)) (pss_one (ps_ret (pe_tup (pa_cons (pv 0) (pa_cons pe_int pa_nil))))) pss_nil)
      (pss_one (ps_ret (pe_tup (pa_cons (pe_op n_xor (pv 0) pe_int) (pa_cons (pe_ifExp (pt_val (pv 2)) pe_int pe_int) pa_nil)))))), ?_⟩
    refine ⟨.bl a, rfl, a, rfl, ?_⟩
    cases a with
    | true => exact iteT ⟨.int m, rfl, by show 2 ≤ sizeLine; decide, fun t ht => Gives.new (f := fTruth m true b) q ht⟩
    | false =>
      refine iteF ⟨.int m, rfl, m, 1, rfl, rfl, .bl b, rfl, b, rfl, ?_⟩
      cases b with
      | true => exact iteT ⟨by show 2 ≤ sizeLine; decide, fun t ht => Gives.new (f := fTruth m false true) q ht⟩
      | false => exact iteF ⟨by show 2 ≤ sizeLine; decide, fun t ht => Gives.new (f := fTruth m false false) q ht⟩
theorem ok_same (F : FnP K "_same" sSameA f fd) (G : FnOk P w K mg base CX0 1 fC fdC ["most", "never", "always"] (spTruth K)) (bC : Binds K fdC ["most", "never", "always"] []) (kC : PySem.W.keepIn K (.ref fC) = true) (gC : mg "_truth" = some (.ref fC)) : FnOk P w K mg base CX0 2 f fd ["most", "y", "z"] (spTwo K fSame) := by
  refine F.ok (k := 1) scSameA (fun vs H Q E h => ?_) (fun cdv A outer s H vs Q E hr h => ?_)
  · obtain ⟨m, p, r, y, z, rfl, _⟩ := h
    rfl
  · obtain ⟨m, p, r, y, z, rfl, h1, h2, q⟩ := h
    refine ⟨_, PSs.nox (pss_cons (ps_set (i := 3) scSameA.nd rfl (Or.inl rfl) (pe_cmpR n_ne (pe_op n_or (pe_op n_and (pe_ix ix_tup (pv 1) pe_int (fun _ _ => rfl)) (pe_ix ix_tup (pv 2) pe_int (fun _ _ => rfl))) (pe_op n_and (pe_ix ix_tup (pv 1) pe_int (fun _ _ => rfl)) (pe_ix ix_tup (pv 2) pe_int (fun _ _ => rfl)))) pe_int (nomark _)))
      (pss_cons (ps_set (i := 4) scSameA.nd rfl (Or.inl rfl) (pe_cmpR n_eq (pe_op n_or (pe_op n_and (pe_ix ix_tup (pv 1) pe_int (fun _ _ => rfl)) (pe_ix ix_tup (pv 2) pe_int (fun _ _ => rfl))) (pe_op n_and (pe_ix ix_tup (pv 1) pe_int (fun _ _ => rfl)) (pe_ix ix_tup (pv 2) pe_int (fun _ _ => rfl)))) (pv 0) (nomark _)))
      (pss_one (ps_ret (pe_call G hr (by rfl) gC kC bC .nil pass0 (pa_cons (pv 0) (pa_cons (pv 3) (pa_cons (pv 4) pa_nil)))))))), ?_⟩
    refine ⟨.ref p, rfl, p, twoF y, 0, .int y.1, rfl, rfl, h1, atI_nat (j := 0) rfl, .ref r, rfl, r, twoF z, 1, .int z.2, rfl, rfl, h2, atI_nat (j := 1) rfl, y.1, z.2, rfl, rfl,
      .ref p, rfl, p, twoF y, 1, .int y.2, rfl, rfl, h1, atI_nat (j := 1) rfl, .ref r, rfl, r, twoF z, 0, .int z.1, rfl, rfl, h2, atI_nat (j := 0) rfl, y.2, z.1, rfl, rfl, y.1 &&& z.2, y.2 &&& z.1, rfl, rfl, (y.1 &&& z.2) ||| (y.2 &&& z.1), 0, rfl, rfl, ?_⟩
    refine ⟨.ref p, rfl, p, twoF y, 0, .int y.1, rfl, rfl, h1, atI_nat (j := 0) rfl, .ref r, rfl, r, twoF z, 0, .int z.1, rfl, rfl, h2, atI_nat (j := 0) rfl, y.1, z.1, rfl, rfl,
      .ref p, rfl, p, twoF y, 1, .int y.2, rfl, rfl, h1, atI_nat (j := 1) rfl, .ref r, rfl, r, twoF z, 1, .int z.2, rfl, rfl, h2, atI_nat (j := 1) rfl, y.2, z.2, rfl, rfl, y.1 &&& z.1, y.2 &&& z.2, rfl, rfl, .int m, rfl, (y.1 &&& z.1) ||| (y.2 &&& z.2), m, rfl, rfl, ?_⟩
    exact ⟨.int m, rfl, _, rfl, _, rfl, m, _, _, rfl, q⟩
theorem ok_below (F : FnP K "_below" sBelowA f fd) (G : FnOk P w K mg base CX0 1 fC fdC ["most", "never", "always"] (spTruth K)) (bC : Binds K fdC ["most", "never", "always"] []) (kC : PySem.W.keepIn K (.ref fC) = true) (gC : mg "_truth" = some (.ref fC)) : FnOk P w K mg base CX0 2 f fd ["most", "y", "z"] (spTwo K fBelow) := by
  refine F.ok (k := 1) scBelowA (fun vs H Q E h => ?_) (fun cdv A outer s H vs Q E hr h => ?_)
  · obtain ⟨m, p, r, y, z, rfl, _⟩ := h
    rfl
  · obtain ⟨m, p, r, y, z, rfl, h1, h2, q⟩ := h
    refine ⟨_, PSs.nox (pss_cons (ps_set (i := 3) scBelowA.nd rfl (Or.inl rfl) (pe_cmpR n_ge (pe_ix ix_tup (pv 1) pe_int (fun _ _ => rfl)) (pe_op n_xor (pv 0) (pe_ix ix_tup (pv 2) pe_int (fun _ _ => rfl))) (nomark _)))
      (pss_cons (ps_set (i := 4) scBelowA.nd rfl (Or.inl rfl) (pe_cmpR n_lt (pe_op n_xor (pv 0) (pe_ix ix_tup (pv 1) pe_int (fun _ _ => rfl))) (pe_ix ix_tup (pv 2) pe_int (fun _ _ => rfl)) (nomark _)))
      (pss_one (ps_ret (pe_call G hr (by rfl) gC kC bC .nil pass0 (pa_cons (pv 0) (pa_cons (pv 3) (pa_cons (pv 4) pa_nil)))))))), ?_⟩
    refine ⟨.ref p, rfl, p, twoF y, 1, .int y.2, rfl, rfl, h1, atI_nat (j := 1) rfl, .int m, rfl, .ref r, rfl, r, twoF z, 0, .int z.1, rfl, rfl, h2, atI_nat (j := 0) rfl, m, z.1, rfl, rfl, y.2, m ^^^ z.1, rfl, rfl, ?_⟩
    refine ⟨.int m, rfl, .ref p, rfl, p, twoF y, 0, .int y.1, rfl, rfl, h1, atI_nat (j := 0) rfl, m, y.1, rfl, rfl, .ref r, rfl, r, twoF z, 1, .int z.2, rfl, rfl, h2, atI_nat (j := 1) rfl, m ^^^ y.1, z.2, rfl, rfl, ?_⟩
    exact ⟨.int m, rfl, _, rfl, _, rfl, m, _, _, rfl, q⟩
theorem ok_up (F : FnP K "_up" sUpA f fd) : FnOk P w K mg base CX0 1 f fd ["most", "y", "k"] (spShift K fUp) := by
  refine F.ok (k := 0) scUpA (fun vs H Q E h => ?_) (fun cdv A outer s H vs Q E hr h => ?_)
  · obtain ⟨m, p, y, k, rfl, _⟩ := h
    rfl
  · obtain ⟨m, p, y, k, rfl, h1, b1, b2, hk, q⟩ := h
    refine ⟨_, PSs.nox (pss_cons (ps_set (i := 3) scUpA.nd rfl (Or.inl rfl) (pe_op n_sub (pe_op n_bit pe_int (pv 2)) pe_int))
      (pss_one (ps_ret (pe_tup (pa_cons (pe_op n_and (pe_op n_or (pe_op n_shl (pe_ix ix_tup (pv 1) pe_int (fun _ _ => rfl)) (pv 2)) (pv 3)) (pv 0)) (pa_cons (pe_op n_and (pe_op n_shl (pe_ix ix_tup (pv 1) pe_int (fun _ _ => rfl)) (pv 2)) (pv 0)) pa_nil)))))), ?_⟩
    refine ⟨.int k, rfl, k, rfl, rfl, by omega, 2 ^ k, 1, rfl, rfl, pow_pos', ?_⟩
    exact ⟨.ref p, rfl, p, twoF y, 0, .int y.1, rfl, rfl, h1, atI_nat (j := 0) rfl, .int k, rfl, y.1, k, rfl, rfl, ⟨by omega, by omega⟩, .int ((2 ^ k - 1 : Nat) : Int), rfl, y.1 * 2 ^ k, 2 ^ k - 1, rfl, rfl, .int m, rfl, _, m, rfl, rfl,
      .ref p, rfl, p, twoF y, 1, .int y.2, rfl, rfl, h1, atI_nat (j := 1) rfl, .int k, rfl, y.2, k, rfl, rfl, ⟨by omega, by omega⟩, .int m, rfl, y.2 * 2 ^ k, m, rfl, rfl, by show 2 ≤ sizeLine; decide, fun t ht => Gives.new (f := fUp m y k) q ht⟩
theorem ok_down (F : FnP K "_down" sDownA f fd) : FnOk P w K mg base CX0 1 f fd ["most", "y", "k"] (spShift K fDown) := by
  refine F.ok (k := 0) scDownA (fun vs H Q E h => ?_) (fun cdv A outer s H vs Q E hr h => ?_)
  · obtain ⟨m, p, y, k, rfl, _⟩ := h
    rfl
  · obtain ⟨m, p, y, k, rfl, h1, b1, b2, hk, q⟩ := h
    refine ⟨_, PSs.nox (pss_cons (ps_set (i := 3) scDownA.nd rfl (Or.inl rfl) (pe_op n_xor (pv 0) (pe_op n_shr (pv 0) (pv 2))))
      (pss_one (ps_ret (pe_tup (pa_cons (pe_op n_or (pe_op n_shr (pe_ix ix_tup (pv 1) pe_int (fun _ _ => rfl)) (pv 2)) (pv 3)) (pa_cons (pe_op n_shr (pe_ix ix_tup (pv 1) pe_int (fun _ _ => rfl)) (pv 2)) pa_nil)))))), ?_⟩
    refine ⟨.int m, rfl, .int m, rfl, .int k, rfl, m, k, rfl, rfl, m, m >>> k, rfl, rfl, ?_⟩
    exact ⟨.ref p, rfl, p, twoF y, 0, .int y.1, rfl, rfl, h1, atI_nat (j := 0) rfl, .int k, rfl, y.1, k, rfl, rfl, _, rfl, y.1 >>> k, m ^^^ (m >>> k), rfl, rfl,
      .ref p, rfl, p, twoF y, 1, .int y.2, rfl, rfl, h1, atI_nat (j := 1) rfl, .int k, rfl, y.2, k, rfl, rfl, by show 2 ≤ sizeLine; decide, fun t ht => Gives.new (f := fDown m y k) q ht⟩
theorem ok_pick (F : FnP K "_pick" sPickA f fd) (G : FnOk P w K mg base CX0 1 fC fdC ["one", "other"] (spCommon K)) (bC : Binds K fdC ["one", "other"] []) (kC : PySem.W.keepIn K (.ref fC) = true) (gC : mg "common_facts" = some (.ref fC)) : FnOk P w K mg base CX0 2 f fd ["most", "c", "y", "z"] (spPick K) := by
  refine F.ok (k := 1) scPickA (fun vs H Q E h => ?_) (fun cdv A outer s H vs Q E hr h => ?_)
  · obtain ⟨m, p, r, t, c, y, z, rfl, _⟩ := h
    rfl
  · obtain ⟨m, p, r, t, c, y, z, rfl, h1, h2, h3, q⟩ := h
    refine ⟨_, PSs.nox (pss_cons (ps_if (pt_cmpR n_ne (pe_ix ix_tup (pv 1) pe_int (fun _ _ => rfl)) pe_int (nomark _)) (pss_one (ps_ret (pv 2))) pss_nil)
      (pss_one (ps_ret (pe_ifExp (pt_cmpR n_eq (pe_ix ix_tup (pv 1) pe_int (fun _ _ => rfl)) (pv 0) (nomark _)) (pv 3) (pe_call G hr (by rfl) gC kC bC .nil pass0 (pa_cons (pv 2) (pa_cons (pv 3) pa_nil))))))), ?_⟩
    refine ⟨.ref p, rfl, p, twoF c, 1, .int c.2, rfl, rfl, h1, atI_nat (j := 1) rfl, c.2, 0, rfl, rfl, _, rfl, ?_⟩
    by_cases e : c.2 = 0
    · rw [decide_eq_true e]
      refine iteF ⟨.ref p, rfl, p, twoF c, 0, .int c.1, rfl, rfl, h1, atI_nat (j := 0) rfl, .int m, rfl, c.1, m, rfl, rfl, _, rfl, ite2 (fun e1 => ?_) (fun e1 => ?_)⟩
      · have e1 : c.1 = m := of_decide_eq_true e1
        refine ⟨.ref t, rfl, ?_⟩
        have q' := q t H Kept.refl
        unfold fPick at q'
        rw [if_neg (fun n => n e), if_pos e1] at q'
        exact q' h3
      · have e1 : ¬ c.1 = m := fun z => e1 (decide_eq_true z)
        refine ⟨.ref r, rfl, .ref t, rfl, r, t, y, z, rfl, h2, h3, ?_⟩
        unfold fPick at q
        rw [if_neg (fun n => n e), if_neg e1] at q
        exact q
    · rw [decide_eq_false e]
      refine iteT ⟨.ref r, rfl, ?_⟩
      have q' := q r H Kept.refl
      unfold fPick at q'
      rw [if_pos e] at q'
      exact q' h2
end
end K12

set_option Elab.async false
set_option linter.all false
set_option maxRecDepth 100000
set_option maxHeartbeats 2000000
namespace K12
open PySem PySem.Spec PyProof.Rows L2
/-! ### the program's own defs -/
abbrev sIsWhole : Stmt := top 4
theorem scIsWhole : FnScope ["thing", "least", "most"] ["thing", "least", "most"] (defScope sIsWhole) := ⟨rfl, rfl, rfl, by decide +kernel, rfl, by decide +kernel, by decide +kernel⟩
abbrev sIsFacts : Stmt := top 8
theorem scIsFacts : FnScope ["wide", "thing", "zeros", "ones", "most"] ["wide", "thing"] (defScope sIsFacts) := ⟨rfl, rfl, rfl, by decide +kernel, rfl, by decide +kernel, by decide +kernel⟩
def wholeB (x : V) (lo hi : Int) : Bool := match x with
  | .int i => decide (lo ≤ i) && decide (i ≤ hi)
  | _ => false
def spWhole (K : PySem.W.Frag) : Sp := fun vs H Q _ => ∃ (x : V) (T : String) (lo hi : Int), vs = [x, .int lo, .int hi] ∧ TyB K H x T ∧ Q (.bl (wholeB x lo hi)) H
theorem tyb_int {K : PySem.W.Frag} {H : Hp} {x : V} {T : String} (t : TyB K H x T) : (T = "int" ∧ ∃ i, x = .int i) ∨ (T ≠ "int" ∧ ∀ lo hi, wholeB x lo hi = false) := by
  cases t with
  | int i => exact .inl ⟨rfl, i, rfl⟩
  | _ => exact .inr ⟨by decide, fun _ _ => rfl⟩
section
variable {P : Program} {w : World} {K : PySem.W.Frag} {mg : PySem.Str → Option Value} {base : Heap} {f : Addr} {fd : FuncData}
theorem ok_whole (F : FnP K "is_whole" sIsWhole f fd) (m_type : mg "type" = none) (m_int : mg "int" = none) : FnOk P w K mg base CX0 1 f fd ["thing", "least", "most"] (spWhole K) := by
  refine F.ok scIsWhole (fun vs H Q E h => ?_) (fun cdv A outer s H vs Q E hr h => ?_)
  · obtain ⟨x, T, lo, hi, rfl, _⟩ := h
    rfl
  · obtain ⟨x, T, lo, hi, rfl, hT, q⟩ := h
    refine ⟨_, PSs.nox (pss_one (ps_ret (pe_and (pe_cmpR op_isTyB (pe_callTy call_type1 (by rfl) m_type (by decide +kernel) (pa_cons (pv 0) pa_nil)) (pe_bltn (v := .ty "int") (by rfl) m_int (by decide +kernel) rfl) (nomark _)) (pe_one (pe_chain op_le op_le (pv 1) (pv 0) (pv 2)))))), ?_⟩
    refine ⟨x, rfl, x, T, rfl, hT, T, "int", rfl, rfl, _, rfl, ?_⟩
    rcases tyb_int hT with ⟨rfl, i, rfl⟩ | ⟨hn, hw⟩
    · rw [decide_eq_true rfl]
      refine iteT ⟨.int lo, rfl, .int i, rfl, lo, i, rfl, rfl, _, rfl, ?_⟩
      have q' : Q (.bl (decide (lo ≤ i) && decide (i ≤ hi))) H := q
      cases e : decide (lo ≤ i) with
      | true =>
        rw [e] at q'
        exact iteT ⟨.int hi, rfl, i, hi, rfl, rfl, q'⟩
      | false =>
        rw [e] at q'
        exact iteF q'
    · rw [decide_eq_false hn]
      rw [hw] at q
      exact iteF q
def zeroB (u v : V) : Bool := match u, v with
  | .int a, .int b => decide (Builtin.bitAnd a b = 0)
  | _, _ => false
def pairB (w : Nat) (u v : V) : Bool := wholeB u 0 (most w) && (wholeB v 0 (most w) && zeroB u v)
/-- what is_facts is to tell of a thing -/
inductive FB (K : PySem.W.Frag) (H : Hp) (w : Nat) : V → Bool → Prop
  | ty {x : V} {T : String} : TyB K H x T → T ≠ "tuple" → FB K H w x false
  | len {p : Addr} {xs : List V} : SqT K H p xs → xs.length ≠ 2 → FB K H w (.ref p) false
  | pair {p : Addr} {u v : V} {T U : String} : SqT K H p [u, v] → TyB K H u T → TyB K H v U → FB K H w (.ref p) (pairB w u v)
def spIsFacts (K : PySem.W.Frag) : Sp := fun vs H Q _ => ∃ (v : Nat) (x : V) (b : Bool), vs = [.int (v : Int), x] ∧ v ≤ 12 ∧ FB K H v x b ∧ Q (.bl b) H
theorem ok_isfacts {fW : Addr} {fdW : FuncData} (F : FnP K "is_facts" sIsFacts f fd) (GIsWhole : FnOk P w K mg base CX0 1 fW fdW ["thing", "least", "most"] (spWhole K)) (bIsWhole : Binds K fdW ["thing", "least", "most"] []) (kIsWhole : PySem.W.keepIn K (.ref fW) = true) (gIsWhole : mg "is_whole" = some (.ref fW))
    (m_type : mg "type" = none) (m_tuple : mg "tuple" = none) (m_len : mg "len" = none) : FnOk P w K mg base CX0 2 f fd ["wide", "thing"] (spIsFacts K) := by
  refine F.ok (k := 1) scIsFacts (fun vs H Q E h => ?_) (fun cdv A outer s H vs Q E hr h => ?_)
  · obtain ⟨v, x, b, rfl, _⟩ := h
    rfl
  · obtain ⟨v, x, b, rfl, w2, hF, q⟩ := h
    refine ⟨_, PSs.nox (pss_cons (ps_if (PW.pt (pw_or (pt_cmpR op_notTyB (pe_callTy call_type1 (by rfl) m_type (by decide +kernel) (pa_cons (pv 1) pa_nil)) (pe_bltn (v := .ty "tuple") (by rfl) m_tuple (by decide +kernel) rfl) (nomark _)) (pw_or1 (pt_cmpR op_ne (pe_callB call_len_seq (by rfl) m_len PySem.boot_len (pa_cons (pv 1) pa_nil)) pe_int (nomark _)))))
        (pss_one (ps_ret pe_bl)) pss_nil)
      (pss_cons (ps_asg (pv 1) (pg_tup rfl (pgs_cons (pg_name (i := 2) scIsFacts.nd rfl (Or.inl rfl)) (pgs_cons (pg_name (i := 3) scIsFacts.nd rfl (Or.inl rfl)) pgs_nil))))
      (pss_cons (ps_set (i := 4) scIsFacts.nd rfl (Or.inl rfl) (pe_op n_sub (pe_op n_bit pe_int (pv 0)) pe_int))
      (pss_one (ps_ret (pe_and (pe_call GIsWhole hr (by rfl) gIsWhole kIsWhole bIsWhole .nil pass0 (pa_cons (pv 2) (pa_cons pe_int (pa_cons (pv 4) pa_nil)))) (pe_and (pe_call GIsWhole hr (by rfl) gIsWhole kIsWhole bIsWhole .nil pass0 (pa_cons (pv 3) (pa_cons pe_int (pa_cons (pv 4) pa_nil)))) (pe_one (pe_cmpR op_eq (pe_op op_and (pv 2) (pv 3)) pe_int (nomark _)))))))))), ?_⟩
    cases hF with
    | @ty _ T ht hn =>
      refine ⟨x, rfl, x, T, rfl, ht, T, "tuple", rfl, rfl, _, rfl, ?_⟩
      rw [decide_eq_false hn]
      exact iteT q
    | @len p xs hs hn =>
      refine ⟨.ref p, rfl, .ref p, "tuple", rfl, .tup hs, "tuple", "tuple", rfl, rfl, _, rfl, ?_⟩
      rw [decide_eq_true rfl]
      refine iteF ⟨.ref p, rfl, p, xs, rfl, .inr hs, rfl, _, rfl, ?_⟩
      rw [show (!decide (V.int (xs.length : Int) = V.int 2)) = true by rw [decide_eq_false (fun z => hn (by have := V.int.inj z; omega))]; rfl]
      exact iteT q
    | @pair p u v' T U hs hu' hv' =>
      refine ⟨.ref p, rfl, .ref p, "tuple", rfl, .tup hs, "tuple", "tuple", rfl, rfl, _, rfl, ?_⟩
      rw [decide_eq_true rfl]
      refine iteF ⟨.ref p, rfl, p, [u, v'], rfl, .inr hs, rfl, _, rfl, ?_⟩
      refine iteF ?_
      refine ⟨.ref p, rfl, p, [u, v'], rfl, hs, rfl, u, [v'], rfl, v', [], rfl, rfl, ?_⟩
      refine ⟨.int v, rfl, v, rfl, rfl, by omega, 2 ^ v, 1, rfl, rfl, pow_pos', ?_⟩
      refine ⟨u, rfl, .int (most v), rfl, u, T, 0, most v, rfl, hu', _, rfl, ?_⟩
      have q' : Q (.bl (wholeB u 0 (most v) && (wholeB v' 0 (most v) && zeroB u v'))) H := q
      cases e1 : wholeB u 0 (most v) with
      | false =>
        rw [e1] at q'
        exact iteF q'
      | true =>
        rw [e1] at q'
        refine iteT ⟨v', rfl, .int (most v), rfl, v', U, 0, most v, rfl, hv', _, rfl, ?_⟩
        cases e2 : wholeB v' 0 (most v) with
        | false =>
          rw [e2] at q'
          exact iteF q'
        | true =>
          rw [e2] at q'
          refine iteT ?_
          cases u with
          | int a =>
            cases v' with
            | int b => 
              refine ⟨.int a, rfl, .int b, rfl, a, b, rfl, rfl, rfl, ?_⟩
              rw [show decide (V.int (Builtin.bitAnd a b) = V.int 0) = decide (Builtin.bitAnd a b = 0) by rw [dec_int]; exact (Bool.beq_eq_decide_eq _ _)]
              exact q'
            | _ => cases e2
          | _ => cases e1
end
/-- facts of a word so wide -/
structure Fc (w : Nat) (f : F2) : Prop where
  hz : f.1 < 2 ^ w
  ho : f.2 < 2 ^ w
  no : f.1 &&& f.2 = 0
theorem pair_true {v z o : Nat} (hz : z < 2 ^ v) (ho : o < 2 ^ v) (no : z &&& o = 0) : pairB v (.int (z : Int)) (.int (o : Int)) = true := by
  have hm1 := most_pow v
  show ((decide ((0 : Int) ≤ z) && decide ((z : Int) ≤ (most v : Nat))) && ((decide ((0 : Int) ≤ o) && decide ((o : Int) ≤ (most v : Nat))) && decide (Builtin.bitAnd (z : Int) (o : Int) = 0))) = true
  rw [bA, no, decide_eq_true (show (0 : Int) ≤ z by omega), decide_eq_true (show (z : Int) ≤ (most v : Nat) by omega), decide_eq_true (show (0 : Int) ≤ o by omega), decide_eq_true (show (o : Int) ≤ (most v : Nat) by omega)]
  rfl
theorem Fc.fb {K : PySem.W.Frag} {H : Hp} {v : Nat} {f : F2} {p : Addr} (c : Fc v f) (h : SqT K H p (twoF f)) : FB K H v (.ref p) true := by
  rw [← pair_true c.hz c.ho c.no]
  exact .pair h (.int _) (.int _)
end K12

set_option Elab.async false
set_option linter.all false
set_option maxRecDepth 100000
set_option maxHeartbeats 4000000
namespace K12
open PySem PySem.Spec PyProof.Rows L2
/-! ### a call of a local name with a star -/
def tCallH (X : Cx) (k i : Nat) (t : TA) : TE := fun σ H Q => ∃ f sp, σ[i]? = some (some (.ref f)) ∧ Held X.prog X.w X.K X.mg X.base k f sp ∧ t σ H fun vs H1 => sp vs H1 Q (fun _ _ _ => False)
section
variable {X : Cx} {k i : Nat} {x : PySem.Str} {p pos : Pos} {e : Expr} {es : List Expr} {t : TA}
theorem pe_callHS (hr : Room k X.A) (hN : X.N[i]? = some x) (hv : Vis X.env.scope x) (ha : PA X (e :: es) t)
    (hdb : (x == ("__debug__" : PySem.Str)) = false := by decide) (hcd : (x == ("__classdict__" : PySem.Str)) = false := by decide)
    (he : starEach (e :: es) X.env = (false, eval e X.env) :: starEach es X.env := by rfl) (hst : (backTo pos (starEach es X.env)).any (·.1) = true := by rfl) : PE X (.Call (.Name x p) (e :: es) [] pos) (tCallH X k i t) := by
  refine ⟨fun pins s σ H Q I h => ?_⟩
  obtain ⟨f, sp, hs, ⟨fd, ps, F, hk, hb⟩, ht⟩ := h
  refine wpAny_Call_Name_kw (thn ((pe_var (pos := p) hN hv hdb hcd).run pins s σ H (fun v H1 => v = .ref f ∧ H1 = H) I ⟨.ref f, hs, rfl, rfl⟩) fun u s1 ⟨v, H1, I1, r1, q1⟩ => ?_)
  obtain ⟨rfl, rfl⟩ := q1
  cases r1
  refine PySem.W.callWith_S2 (h₀ := X.base) I.ok.mod.kin hk (thn (ha.run pos pins s1 σ _ _ I1 ht) fun us s2 ⟨vs, H2, I2, r, q⟩ => ⟨I2.kIn, ?_⟩) he hst
  exact run_fn (dvs := []) F hr hb .nil (fun _ _ _ _ _ _ _ z => z.elim) I2 r (by rw [List.append_nil]; exact q)
end
/-! ### expressions -/
inductive Op where
  | add | less | and | or | unlike | same | below
def Op.name : Op → PySem.Str
  | .add => "add"
  | .less => "less"
  | .and => "and"
  | .or => "or"
  | .unlike => "unlike"
  | .same => "same"
  | .below => "below"
def Op.f : Op → Nat → F2 → F2 → F2
  | .add => fSum
  | .less => fDiff
  | .and => fBoth
  | .or => fEither
  | .unlike => fUnlike
  | .same => fSame
  | .below => fBelow
inductive Ex where
  | num (n : Nat)
  | copy (y : PySem.Str)
  | two (o : Op) (y z : PySem.Str)
  | up (y : PySem.Str) (k : Nat)
  | down (y : PySem.Str) (k : Nat)
  | pick (c y z : PySem.Str)
def Ex.word : Ex → PySem.Str
  | .num _ => "number"
  | .copy _ => "copy"
  | .two o _ _ => o.name
  | .up _ _ => "up"
  | .down _ _ => "down"
  | .pick _ _ _ => "pick"
def Ex.parts : Ex → List V
  | .num n => [.int (n : Int)]
  | .copy y => [.str y]
  | .two _ y z => [.str y, .str z]
  | .up y k => [.str y, .int (k : Int)]
  | .down y k => [.str y, .int (k : Int)]
  | .pick c y z => [.str c, .str y, .str z]
def Ex.vs (e : Ex) : List V := .str e.word :: e.parts
def Ex.names : Ex → List PySem.Str
  | .num _ => []
  | .copy y => [y]
  | .two _ y z => [y, z]
  | .up y _ => [y]
  | .down y _ => [y]
  | .pick c y z => [c, y, z]
def exF (m : Nat) (g : PySem.Str → F2) : Ex → F2
  | .num n => (m ^^^ n, n)
  | .copy y => g y
  | .two o y z => o.f m (g y) (g z)
  | .up y k => fUp m (g y) k
  | .down y k => fDown m (g y) k
  | .pick c y z => fPick m (g c) (g y) (g z)
def Ex.small : Ex → Prop
  | .up _ k => k ≤ 100
  | .down _ k => k ≤ 100
  | _ => True
/-- a dict from names to facts: those of these names at least -/
structure FD (K : PySem.W.Frag) (H : Hp) (a : Addr) (ks : List PySem.Str) (g : PySem.Str → F2) : Prop where
  ex : ∃ (kvs : List (Key × V)) (pa : PySem.Str → Addr), H a = some (.dK kvs) ∧ ∀ x ∈ ks, valV kvs (Sum.inr x : Key) = some (.ref (pa x)) ∧ SqT K H (pa x) (twoF (g x))
theorem FD.kept {K : PySem.W.Frag} {H H' : Hp} {a : Addr} {ks : List PySem.Str} {g : PySem.Str → F2} (h : FD K H a ks g) (k : Kept None H H') : FD K H' a ks g := by
  obtain ⟨kvs, pa, e, h⟩ := h.ex
  refine ⟨kvs, pa, k.dK e (fun z => z), fun x hx => ?_⟩
  obtain ⟨h1, h2⟩ := h x hx
  exact ⟨h1, k.sqt h2 (fun z => z)⟩
theorem take_filter {α : Type} (p : α → Bool) (l : List α) (i : Nat) (x : α) (h : l[i]? = some x) : (l.take (i + 1)).filter p = if p x = true then (l.take i).filter p ++ [x] else (l.take i).filter p := by
  rw [List.take_add_one, h, List.filter_append]
  by_cases hp : p x = true
  · rw [if_pos hp]; simp [hp]
  · rw [if_neg hp]; simp [hp]
def strB : V → Bool
  | .str _ => true
  | _ => false
theorem parts_names (e : Ex) : e.parts.filter strB = e.names.map V.str := by cases e <;> rfl
theorem parts_ty {K : PySem.W.Frag} {H : Hp} (e : Ex) : ∀ x ∈ e.parts, (∃ z, x = .str z ∧ z ∈ e.names) ∨ (∃ n : Nat, x = .int (n : Int)) := by
  intro x hx
  cases e <;> simp only [Ex.parts, List.mem_cons, List.not_mem_nil, or_false] at hx
  all_goals (first | (obtain rfl := hx; first | exact .inr ⟨_, rfl⟩ | exact .inl ⟨_, rfl, List.mem_cons_self⟩) | (rcases hx with rfl | rfl <;> first | exact .inr ⟨_, rfl⟩ | exact .inl ⟨_, rfl, by simp [Ex.names]⟩) | (rcases hx with rfl | rfl | rfl <;> exact .inl ⟨_, rfl, by simp [Ex.names]⟩))
theorem cut_parts (e : Ex) : cutV e.vs (some 1) none = e.parts := by cases e <;> rfl
theorem cut_ok (e : Ex) : ¬ (HT.sIx e.vs.length 0 (some 1) = 0 ∧ HT.sIx e.vs.length e.vs.length none = e.vs.length) := by
  cases e <;> exact fun z => absurd z.1 (by first | (show ¬ HT.sIx 2 0 (some 1) = 0; decide) | (show ¬ HT.sIx 3 0 (some 1) = 0; decide) | (show ¬ HT.sIx 4 0 (some 1) = 0; decide))
theorem parts_len (e : Ex) : e.parts.length ≤ 3 := by cases e <;> simp [Ex.parts]
abbrev sNamesIn : Stmt := top 6
abbrev sMade : Stmt := top 13
abbrev sExprF : Stmt := top 12
theorem scNamesIn : FnScope ["expr", "part"] ["expr"] (defScope sNamesIn) := ⟨rfl, rfl, rfl, by decide +kernel, rfl, by decide +kernel, by decide +kernel⟩
theorem scMade : FnScope ["wide", "expr", "facts", "action", "parts", "part"] ["wide", "expr", "facts"] (defScope sMade) := ⟨rfl, rfl, rfl, by decide +kernel, rfl, by decide +kernel, by decide +kernel⟩
theorem scExprF : FnScope ["wide", "expr", "facts", "name"] ["wide", "expr", "facts"] (defScope sExprF) := ⟨rfl, rfl, rfl, by decide +kernel, rfl, by decide +kernel, by decide +kernel⟩
def spNames (K : PySem.W.Frag) : Sp := fun vs H Q _ => ∃ (p : Addr) (e : Ex), vs = [.ref p] ∧ SqT K H p e.vs ∧ ∀ l H', H l = none → Kept None H H' → H' l = some (.lst (e.names.map V.str)) → Q (.ref l) H'
section
variable {P : Program} {w : World} {K : PySem.W.Frag} {mg : PySem.Str → Option Value} {base : Heap} {f : Addr} {fd : FuncData}
theorem ok_names_in (F : FnP K "names_in" sNamesIn f fd) (m_type : mg "type" = none) (m_str : mg "str" = none) : FnOk P w K mg base CX0 1 f fd ["expr"] (spNames K) := by
  refine F.ok (k := 0) scNamesIn (fun vs H Q E h => ?_) (fun cdv A outer s H vs Q E hr h => ?_)
  · obtain ⟨p, e, rfl, _⟩ := h
    rfl
  · obtain ⟨p, e, rfl, h1, q⟩ := h
    refine ⟨_, PSs.nox (pss_one (ps_ret (pe_lc (own := [("part", 1)]) (g := gName 1) (tt := tTest (tOp (fun x y H Q => ∃ m n, x = .ty m ∧ y = .ty n ∧ Q (.bl (decide (m = n))) H) (tCB (rTyp K) (tCons (tVar 1) tNil)) (tC (.ty "str")))) (te := tVar 1) rfl scNamesIn.nd (pi_tup (pe_slice sl_tup (pv 0) (po_some pe_int) po_none)) (blkOk_by (own := [("part", 1)]) (N := ["expr", "part"]) (sc := defScope sNamesIn) (by decide +kernel)) (by exact (fun _ _ _ _ _ => (pg_name (i := 1) scNamesIn.nd rfl (Or.inl rfl)))) (by exact (fun _ _ _ _ _ => (pts_one (pt_cmpR op_isTyB (pe_callTy call_type1 (by rfl) m_type (by decide +kernel) (pa_cons (pv 1) pa_nil)) (pe_bltn (v := .ty "str") (by rfl) m_str (by decide +kernel) rfl) (nomark _))))) (by exact (fun _ _ _ _ _ => (pv 1)))))), ?_⟩
    refine ⟨.ref p, rfl, 1, rfl, p, e.vs, rfl, h1, cut_ok e, fun t ht => ⟨t, rfl, ⟨_, SqT.of upd_same⟩, fun D hD => ?_⟩⟩
    rw [cut_parts] at hD ⊢
    have k1 : Kept None H (upd H t (.tup e.parts)) := Kept.refl.new ht
    have e1 : upd H t (.tup e.parts) t = some (.tup e.parts) := upd_same
    have hH : H D = none := k1.free hD
    generalize upd H t (.tup e.parts) = H1 at hD k1 e1 ⊢
    refine lc_tup (K := K) (a := t) (xs := e.parts) (fun i H' => Kept None H1 H' ∧ H' D = some (.lst ((e.parts.take i).filter strB))) ⟨Kept.refl.new hD, upd_same⟩ (fun i H' _ h => SqT.of (h.1.tup e1 (fun z => z))) (fun i x H' hx h => ?_) (fun H' h => ?_)
    · obtain ⟨k2, e2⟩ := h
      have tf := take_filter strB _ i x hx
      have fl : ((e.parts.take i).filter strB).length < sizeLine := by
        have a1 := List.length_filter_le strB (e.parts.take i)
        have a2 : (e.parts.take i).length ≤ e.parts.length := by rw [List.length_take]; exact Nat.min_le_right _ _
        have a3 := parts_len e
        rw [sizeLine_eq]
        omega
      rcases parts_ty (K := K) (H := H) e x (List.mem_of_getElem? hx) with ⟨z, rfl, _⟩ | ⟨n, rfl⟩
      · refine ⟨rfl, .str z, rfl, .str z, "str", rfl, .str z, "str", "str", rfl, rfl, _, rfl, ?_⟩
        rw [if_pos (show strB (.str z) = true from rfl)] at tf
        rw [decide_eq_true rfl]
        exact iteT ⟨.str z, rfl, _, e2, fl, k2.new hD, by rw [upd_same, tf]⟩
      · refine ⟨rfl, .int n, rfl, .int n, "int", rfl, .int _, "int", "str", rfl, rfl, _, rfl, ?_⟩
        rw [if_neg (show ¬ strB (.int (n : Int)) = true from Bool.false_ne_true)] at tf
        exact iteF ⟨k2, by rw [tf]; exact e2⟩
    · obtain ⟨k2, e2⟩ := h
      rw [List.take_length, parts_names] at e2
      exact q D H' hH (k1.trans k2) e2
end
end K12

set_option Elab.async false
set_option linter.all false
set_option maxRecDepth 100000
set_option maxHeartbeats 4000000
namespace K12
open PySem PySem.Spec PyProof.Rows L2
/-! ### made_facts, expr_facts -/
/-- the parts of an expression, facts in the names' places -/
def PV (K : PySem.W.Frag) (H : Hp) (g : PySem.Str → F2) : Ex → List V → Prop
  | .num n, vs => vs = [.int (n : Int)]
  | .copy y, vs => ∃ p, vs = [.ref p] ∧ SqT K H p (twoF (g y))
  | .two _ y z, vs => ∃ p r, vs = [.ref p, .ref r] ∧ SqT K H p (twoF (g y)) ∧ SqT K H r (twoF (g z))
  | .up y k, vs => ∃ p, vs = [.ref p, .int (k : Int)] ∧ SqT K H p (twoF (g y))
  | .down y k, vs => ∃ p, vs = [.ref p, .int (k : Int)] ∧ SqT K H p (twoF (g y))
  | .pick c y z, vs => ∃ p r t, vs = [.ref p, .ref r, .ref t] ∧ SqT K H p (twoF (g c)) ∧ SqT K H r (twoF (g y)) ∧ SqT K H t (twoF (g z))
/-- what the table of actions holds -/
def Acts (P : Program) (w : World) (K : PySem.W.Frag) (mg : PySem.Str → Option Value) (base : Heap) (a : Addr) : Prop := ∀ e : Ex, ∃ f sp, KDct K w a e.word (.ref f) ∧ Held P w K mg base 2 f sp ∧
  ∀ (m : Nat) (g : PySem.Str → F2) (vs : List V) (H : Hp) (Q : VK), PV K H g e vs → e.small → (∀ x ∈ e.names, (g x).1 < 5000 ∧ (g x).2 < 5000) → Gives K H Q (exF m g e) → sp (.int (m : Int) :: vs) H Q (fun _ _ _ => False)
def trV (pa : PySem.Str → Addr) : V → V
  | .str x => .ref (pa x)
  | v => v
theorem pv_of {K : PySem.W.Frag} {H : Hp} {g : PySem.Str → F2} {pa : PySem.Str → Addr} {e : Ex} (h : ∀ x ∈ e.names, SqT K H (pa x) (twoF (g x))) : PV K H g e (e.parts.map (trV pa)) := by
  cases e with
  | num n => rfl
  | copy y => exact ⟨_, rfl, h y (by simp [Ex.names])⟩
  | two o y z => exact ⟨_, _, rfl, h y (by simp [Ex.names]), h z (by simp [Ex.names])⟩
  | up y k => exact ⟨_, rfl, h y (by simp [Ex.names])⟩
  | down y k => exact ⟨_, rfl, h y (by simp [Ex.names])⟩
  | pick c y z => exact ⟨_, _, _, rfl, h c (by simp [Ex.names]), h y (by simp [Ex.names]), h z (by simp [Ex.names])⟩
def spMade (K : PySem.W.Frag) : Sp := fun vs H Q _ => ∃ (v : Nat) (p a : Addr) (e : Ex) (g : PySem.Str → F2), vs = [.int (v : Int), .ref p, .ref a] ∧ v ≤ 12 ∧ SqT K H p e.vs ∧ FD K H a e.names g ∧ e.small ∧ (∀ x ∈ e.names, (g x).1 < 5000 ∧ (g x).2 < 5000) ∧ Gives K H Q (exF (most v) g e)
def spExprF (K : PySem.W.Frag) : Sp := fun vs H Q _ => ∃ (v : Nat) (p a : Addr) (e : Ex) (g : PySem.Str → F2), vs = [.int (v : Int), .ref p, .ref a] ∧ v ≤ 12 ∧ SqT K H p e.vs ∧ FD K H a e.names g ∧ e.small ∧ (∀ x ∈ e.names, Fc v (g x)) ∧ Gives K H Q (exF (most v) g e)
section
variable {P : Program} {w : World} {K : PySem.W.Frag} {mg : PySem.Str → Option Value} {base : Heap} {f a0 : Addr} {fd : FuncData}
theorem ok_made (F : FnP K "made_facts" sMade f fd) (gT : mg "FACTS_BY_EXPR" = some (.ref a0)) (T : Acts P w K mg base a0) (m_type : mg "type" = none) (m_str : mg "str" = none) : FnOk P w K mg base CX0 3 f fd ["wide", "expr", "facts"] (spMade K) := by
  refine F.ok (k := 2) scMade (fun vs H Q E h => ?_) (fun cdv A outer s H vs Q E hr h => ?_)
  · obtain ⟨v, p, a, e, g, rfl, _⟩ := h
    rfl
  · obtain ⟨v, p, a, e, g, rfl, w2, h1, hD, sm, sz, q⟩ := h
    have hu := hu_of hr
    refine ⟨_, PSs.nox (pss_cons (ps_set (i := 3) scMade.nd rfl (Or.inl rfl) (pe_ix ix_kdict (pe_glob (v := .ref a0) (by rfl) gT rfl) (pe_ix ix_tup (pv 1) pe_int (fun _ _ => rfl)) (fun _ _ => rfl)))
      (pss_cons (ps_setLc (i := 4) (own := [("part", 5)]) (g := gName 5) (tt := tYes) (te := tIf (tTest (tOp (fun x y H Q => ∃ m n, x = .ty m ∧ y = .ty n ∧ Q (.bl (decide (m = n))) H) (tCB (rTyp K) (tCons (tVar 5) tNil)) (tC (.ty "str")))) (tDGet (tVar 2) (tVar 5)) (tVar 5)) rfl scMade.nd rfl rfl (sw_true rfl rfl rfl (by decide +kernel)) (pi_tup (pe_slice sl_tup (pv 1) (po_some pe_int) po_none)) (blkOk_by (own := [("part", 5)]) (N := ["wide", "expr", "facts", "action", "parts", "part"]) (sc := defScope sMade) (by decide +kernel))
        (by exact (fun _ _ _ _ _ => (pg_name (i := 5) scMade.nd rfl (Or.inl rfl)))) (by exact (fun _ _ _ _ _ => pts_nil)) (by exact (fun _ _ _ _ _ => (pe_ifExp (pt_cmpR op_isTyB (pe_callTy call_type1 (by rfl) m_type (by decide +kernel) (pa_cons (pv 5) pa_nil)) (pe_bltn (v := .ty "str") (by rfl) m_str (by decide +kernel) rfl) (nomark _)) (pe_dget hu (pv 2) (pv 5) (fun _ _ => rfl)) (pv 5)))))
      (pss_one (ps_ret (pe_callHS (k := 2) (i := 3) hr rfl (.inl rfl) (pa_cons (pe_op n_sub (pe_op n_bit pe_int (pv 0)) pe_int) (StX.pa_star (pv 4) pa_nil))))))), ?_⟩
    obtain ⟨fA, sp, kd, held, sq⟩ := T e
    refine ⟨.ref p, rfl, p, e.vs, 0, .str e.word, rfl, rfl, h1, atI_nat (j := 0) rfl, a0, e.word, .ref fA, rfl, rfl, kd, ?_⟩
    refine ⟨.ref p, rfl, 1, rfl, p, e.vs, rfl, h1, cut_ok e, fun t ht => ⟨t, rfl, ⟨_, SqT.of upd_same⟩, fun D hD' => ?_⟩⟩
    rw [cut_parts] at hD' ⊢
    have k1 : Kept None H (upd H t (.tup e.parts)) := Kept.refl.new ht
    have e1 : upd H t (.tup e.parts) t = some (.tup e.parts) := upd_same
    have hF := hD.kept k1
    generalize upd H t (.tup e.parts) = H1 at hD' k1 e1 hF ⊢
    obtain ⟨kvs, pa, ek, hk⟩ := hF.ex
    refine lc_tup (K := K) (a := t) (xs := e.parts) (fun i H' => Kept None H1 H' ∧ H' D = some (.lst ((e.parts.take i).map (trV pa)))) ⟨Kept.refl.new hD', upd_same⟩ (fun i H' _ h => SqT.of (h.1.tup e1 (fun z => z))) (fun i x H' hx h => ?_) (fun H' h => ?_)
    · obtain ⟨k2, e2⟩ := h
      have fl : ((e.parts.take i).map (trV pa)).length < sizeLine := by
        rw [List.length_map, List.length_take, sizeLine_eq]
        have a3 := parts_len e
        omega
      have nx : (e.parts.take (i + 1)).map (trV pa) = (e.parts.take i).map (trV pa) ++ [trV pa x] := by
        rw [List.take_add_one, hx, List.map_append]; rfl
      rcases parts_ty (K := K) (H := H) e x (List.mem_of_getElem? hx) with ⟨z, rfl, hz⟩ | ⟨n, rfl⟩
      · refine ⟨rfl, .str z, rfl, .str z, "str", rfl, .str z, "str", "str", rfl, rfl, _, rfl, ?_⟩
        rw [decide_eq_true rfl]
        have hv := (hk z hz).1
        refine iteT ⟨.ref a, rfl, .str z, rfl, a, .ref (pa z), rfl, (by rw [← hv]; exact DGet.k (k := Sum.inr z) (k2.dK ek (fun z => z))), _, e2, fl, k2.new hD', by rw [upd_same, nx]; rfl⟩
      · refine ⟨rfl, .int n, rfl, .int n, "int", rfl, .int _, "int", "str", rfl, rfl, _, rfl, ?_⟩
        exact iteF ⟨.int n, rfl, _, e2, fl, k2.new hD', by rw [upd_same, nx]; rfl⟩
    · obtain ⟨k2, e2⟩ := h
      rw [List.take_length] at e2
      refine ⟨fA, sp, rfl, held, .int v, rfl, v, rfl, rfl, by omega, 2 ^ v, 1, rfl, rfl, pow_pos', .ref D, rfl, D, _, rfl, .inr (SqL.of e2), ?_⟩
      show sp (.int ((2 ^ v - 1 : Nat) : Int) :: (e.parts.map (trV pa) ++ [])) H' Q _
      rw [List.append_nil]
      exact sq (most v) g _ H' Q (pv_of fun x hx => k2.sqt (hk x hx).2 (fun z => z)) sm sz (fun t2 H2 k3 e3 => q t2 H2 ((k1.trans k2).trans k3) e3)
end
end K12

set_option Elab.async false
set_option linter.all false
set_option maxRecDepth 100000
set_option maxHeartbeats 4000000
namespace K12
open PySem PySem.Spec PyProof.Rows L2
section
variable {P : Program} {w : World} {K : PySem.W.Frag} {mg : PySem.Str → Option Value} {base : Heap} {f a0 fN fI fM : Addr} {fd fdN fdI fdM : FuncData}
theorem ok_exprf (F : FnP K "expr_facts" sExprF f fd) (GN : FnOk P w K mg base CX0 1 fN fdN ["expr"] (spNames K)) (bN : Binds K fdN ["expr"] []) (kN : PySem.W.keepIn K (.ref fN) = true) (gN : mg "names_in" = some (.ref fN))
    (GI : FnOk P w K mg base CX0 2 fI fdI ["wide", "thing"] (spIsFacts K)) (bI : Binds K fdI ["wide", "thing"] []) (kI : PySem.W.keepIn K (.ref fI) = true) (gI : mg "is_facts" = some (.ref fI))
    (GM : FnOk P w K mg base CX0 3 fM fdM ["wide", "expr", "facts"] (spMade K)) (bM : Binds K fdM ["wide", "expr", "facts"] []) (kM : PySem.W.keepIn K (.ref fM) = true) (gM : mg "made_facts" = some (.ref fM))
    (m_type : mg "type" = none) (m_dict : mg "dict" = none) : FnOk P w K mg base CX0 4 f fd ["wide", "expr", "facts"] (spExprF K) := by
  refine F.ok (k := 3) scExprF (fun vs H Q E h => ?_) (fun cdv A outer s H vs Q E hr h => ?_)
  · obtain ⟨v, p, a, e, g, rfl, _⟩ := h
    rfl
  · obtain ⟨v, p, a, e, g, rfl, w2, h1, hD, sm, sz, q⟩ := h
    have hu := hu_of hr
    have hr1 := hr.mono (show 1 ≤ 3 by decide)
    have hr2 := hr.mono (show 2 ≤ 3 by decide)
    refine ⟨_, PSs.nox (pss_cons (ps_if (pt_cmpR op_notTyB (pe_callTy call_type1 (by rfl) m_type (by decide +kernel) (pa_cons (pv 2) pa_nil)) (pe_bltn (v := .ty "dict") (by rfl) m_dict (by decide +kernel) rfl) (nomark _)) (pss_one ps_never) pss_nil)
      (pss_cons (ps_for PassesOwn.never rfl (pi_list (pe_call GN hr1 (by rfl) gN kN bN .nil pass0 (pa_cons (pv 1) pa_nil))) (pg_name (i := 3) scExprF.nd rfl (Or.inl rfl))
        (pss_one (ps_if (PW.pt (pw_or (pt_cmp (pc_dnotin hu (pv 3) (pv 2))) (pw_or1 (pt_not (pt_val (pe_call GI hr2 (by rfl) gI kI bI .nil pass0 (pa_cons (pv 0) (pa_cons (pe_dget hu (pv 2) (pv 3) (fun _ _ => rfl)) pa_nil)))))))) (pss_one ps_never) pss_nil)))
      (pss_one (ps_ret (pe_call GM hr (by rfl) gM kM bM .nil pass0 (pa_cons (pv 0) (pa_cons (pv 1) (pa_cons (pv 2) pa_nil)))))))), ?_⟩
    obtain ⟨kvs, pa, ek, hk⟩ := hD.ex
    refine ⟨.ref a, rfl, .ref a, "dict", rfl, .dK ek, "dict", "dict", rfl, rfl, _, rfl, ?_⟩
    rw [decide_eq_true rfl]
    refine iteF ⟨.ref p, rfl, p, e, rfl, h1, fun l H1 hl k1 e1 => ⟨l, rfl, ⟨_, SqL.of e1⟩, ?_⟩⟩
    refine for_list (K := K) (a := l) (xs := e.names.map V.str) (fun i σ H' => H' = H1 ∧ ∃ y3, σ = [some (.int (v : Int)), some (.ref p), some (.ref a), y3]) ⟨rfl, none, rfl⟩ (fun i σ H' _ h => ?_) (fun i x σ H' hx h => ?_) (fun σ H' h => ?_)
    · rw [h.1]; exact SqL.of e1
    · obtain ⟨rfl, y3, rfl⟩ := h
      have hx2 := List.mem_of_getElem? hx
      obtain ⟨z, hz, rfl⟩ := List.mem_map.mp hx2
      obtain ⟨hv, hp⟩ := hk z hz
      have dg : DGet H' a (.str z) (some (.ref (pa z))) := by rw [← hv]; exact DGet.k (k := Sum.inr z) (k1.dK ek (fun z => z))
      refine ⟨.str z, rfl, .ref a, rfl, a, some (.ref (pa z)), rfl, dg, _, rfl, iteF ?_⟩
      refine ⟨.int v, rfl, .ref a, rfl, .str z, rfl, a, .ref (pa z), rfl, dg, v, .ref (pa z), true, rfl, w2, (sz z hz).fb (k1.sqt hp (fun z => z)), true, rfl, iteF ?_⟩
      exact ⟨rfl, _, rfl⟩
    · obtain ⟨rfl, y3, rfl⟩ := h
      refine ⟨.int v, rfl, .ref p, rfl, .ref a, rfl, v, p, a, e, g, rfl, w2, k1.sqt h1 (fun z => z), hD.kept k1, sm, fun x hx => ?_, fun t H2 k2 e2 => q t H2 (k1.trans k2) e2⟩
      have c := sz x hx
      have pb := pow_bound w2
      exact ⟨by have := c.hz; omega, by have := c.ho; omega⟩
end
/-! ### what the table holds -/
structure TabF (K : PySem.W.Frag) (w : World) (a : Addr) (fnum fcopy fsum fdiff fboth feither funlike fsame fbelow fup fdown fpick : Addr) : Prop where
  num : KDct K w a "number" (.ref fnum)
  copy : KDct K w a "copy" (.ref fcopy)
  add : KDct K w a "add" (.ref fsum)
  less : KDct K w a "less" (.ref fdiff)
  and : KDct K w a "and" (.ref fboth)
  or : KDct K w a "or" (.ref feither)
  unlike : KDct K w a "unlike" (.ref funlike)
  same : KDct K w a "same" (.ref fsame)
  below : KDct K w a "below" (.ref fbelow)
  up : KDct K w a "up" (.ref fup)
  down : KDct K w a "down" (.ref fdown)
  pick : KDct K w a "pick" (.ref fpick)
theorem two_act {P : Program} {w : World} {K : PySem.W.Frag} {mg : PySem.Str → Option Value} {base : Heap} {o : Op} {y z : PySem.Str} {a f : Addr} (kd : KDct K w a o.name (.ref f)) (h : Held P w K mg base 2 f (spTwo K o.f)) :
    ∃ f sp, KDct K w a (Ex.two o y z).word (.ref f) ∧ Held P w K mg base 2 f sp ∧ ∀ (m : Nat) (g : PySem.Str → F2) (vs : List V) (H : Hp) (Q : VK), PV K H g (.two o y z) vs → (Ex.two o y z).small → (∀ x ∈ (Ex.two o y z).names, (g x).1 < 5000 ∧ (g x).2 < 5000) → Gives K H Q (exF m g (.two o y z)) → sp (.int (m : Int) :: vs) H Q (fun _ _ _ => False) := by
  refine ⟨f, _, kd, h, fun m g vs H Q pv _ _ q => ?_⟩
  obtain ⟨p, r, rfl, h1, h2⟩ := pv
  exact ⟨m, p, r, _, _, rfl, h1, h2, q⟩
theorem acts_ok {P : Program} {w : World} {K : PySem.W.Frag} {mg : PySem.Str → Option Value} {base : Heap} {a f1 f2 f3 f4 f5 f6 f7 f8 f9 f10 f11 f12 : Addr} (T : TabF K w a f1 f2 f3 f4 f5 f6 f7 f8 f9 f10 f11 f12)
    (h1 : Held P w K mg base 2 f1 (spNum K)) (h2 : Held P w K mg base 2 f2 (spCopy K)) (h3 : Held P w K mg base 2 f3 (spTwo K fSum)) (h4 : Held P w K mg base 2 f4 (spTwo K fDiff)) (h5 : Held P w K mg base 2 f5 (spTwo K fBoth)) (h6 : Held P w K mg base 2 f6 (spTwo K fEither)) (h7 : Held P w K mg base 2 f7 (spTwo K fUnlike)) (h8 : Held P w K mg base 2 f8 (spTwo K fSame)) (h9 : Held P w K mg base 2 f9 (spTwo K fBelow)) (h10 : Held P w K mg base 2 f10 (spShift K fUp)) (h11 : Held P w K mg base 2 f11 (spShift K fDown)) (h12 : Held P w K mg base 2 f12 (spPick K)) : Acts P w K mg base a := by
  intro e
  cases e with
  | num n =>
    refine ⟨f1, _, T.num, h1, fun m g vs H Q pv _ _ q => ?_⟩
    obtain rfl := pv
    exact ⟨m, n, rfl, q⟩
  | copy y =>
    refine ⟨f2, _, T.copy, h2, fun m g vs H Q pv _ _ q => ?_⟩
    obtain ⟨p, rfl, h⟩ := pv
    exact ⟨m, p, _, rfl, h, q⟩
  | two o y z =>
    cases o with
    | add => exact two_act T.add h3
    | less => exact two_act T.less h4
    | and => exact two_act T.and h5
    | or => exact two_act T.or h6
    | unlike => exact two_act T.unlike h7
    | same => exact two_act T.same h8
    | below => exact two_act T.below h9
  | up y k =>
    refine ⟨f10, _, T.up, h10, fun m g vs H Q pv sm sz q => ?_⟩
    obtain ⟨p, rfl, h⟩ := pv
    have s1 := sz y (by simp [Ex.names])
    exact ⟨m, p, _, k, rfl, h, s1.1, s1.2, sm, q⟩
  | down y k =>
    refine ⟨f11, _, T.down, h11, fun m g vs H Q pv sm sz q => ?_⟩
    obtain ⟨p, rfl, h⟩ := pv
    have s1 := sz y (by simp [Ex.names])
    exact ⟨m, p, _, k, rfl, h, s1.1, s1.2, sm, q⟩
  | pick c y z =>
    refine ⟨f12, _, T.pick, h12, fun m g vs H Q pv _ _ q => ?_⟩
    obtain ⟨p, r, t, rfl, h1, h2, h3⟩ := pv
    exact ⟨m, p, r, t, _, _, _, rfl, h1, h2, h3, q⟩
end K12

set_option Elab.async false
set_option linter.all false
set_option maxRecDepth 100000
set_option maxHeartbeats 4000000
namespace K12
open PySem
/-! ### the mathematics of facts: what is known of what comes -/
abbrev B (x i : Nat) : Bool := x.testBit i
theorem b_most (w i : Nat) : B (most w) i = decide (i < w) := Nat.testBit_two_pow_sub_one w i
theorem b_off {w x i : Nat} (hx : x < 2 ^ w) (h : ¬ i < w) : B x i = false := Nat.testBit_lt_two_pow (Nat.lt_of_lt_of_le hx (Nat.pow_le_pow_right (by decide) (by omega)))
theorem lt_of_b {w x : Nat} (h : ∀ i, ¬ i < w → B x i = false) : x < 2 ^ w := Nat.lt_pow_two_of_testBit x fun i hi => h i (by omega)
theorem b_ext {x y : Nat} (h : ∀ i, B x i = B y i) : x = y := Nat.eq_of_testBit_eq h
theorem b_minus : ∀ (i a b : Nat), B (a - (a &&& b)) i = (B a i && !B b i) := by
  intro i
  induction i with
  | zero =>
    intro a b
    have h1 : (a &&& b) ≤ a := Nat.and_le_left
    have h2 : (a &&& b) % 2 = 1 ↔ a % 2 = 1 ∧ b % 2 = 1 := Nat.and_mod_two_eq_one
    unfold B
    rw [Nat.testBit_zero, Nat.testBit_zero, Nat.testBit_zero]
    by_cases ha : a % 2 = 1 <;> by_cases hb : b % 2 = 1
    · have := h2.mpr ⟨ha, hb⟩
      rw [decide_eq_true ha, decide_eq_true hb, decide_eq_false (by omega)]; rfl
    · have : ¬ (a &&& b) % 2 = 1 := fun e => hb (h2.mp e).2
      rw [decide_eq_true ha, decide_eq_false hb, decide_eq_true (by omega)]; rfl
    · have : ¬ (a &&& b) % 2 = 1 := fun e => ha (h2.mp e).1
      rw [decide_eq_false ha, decide_eq_false (by omega)]; rfl
    · have : ¬ (a &&& b) % 2 = 1 := fun e => ha (h2.mp e).1
      rw [decide_eq_false ha, decide_eq_false (by omega)]; rfl
  | succ i ih =>
    intro a b
    have e : (a - (a &&& b)) / 2 = a / 2 - (a / 2 &&& b / 2) := by
      have h1 : (a &&& b) ≤ a := Nat.and_le_left
      have h2 : (a &&& b) / 2 = a / 2 &&& b / 2 := Nat.and_div_two
      have h3 : (a &&& b) % 2 = 1 → a % 2 = 1 := fun e => (Nat.and_mod_two_eq_one.mp e).1
      rw [← h2]
      omega
    unfold B
    rw [Nat.testBit_succ, Nat.testBit_succ, Nat.testBit_succ, e]
    exact ih _ _
theorem no_ft {b : Bool} (h1 : b = false) (h2 : b = true) : False := by rw [h1] at h2; cases h2
/-- a word so wide with these facts -/
structure Fit (w : Nat) (f : F2) (x : Nat) : Prop where
  lt : x < 2 ^ w
  z : ∀ i, B f.1 i = true → B x i = false
  o : ∀ i, B f.2 i = true → B x i = true
/-- f tells just the bits that are alike in all of S -/
structure Tells (w : Nat) (S : Nat → Prop) (f : F2) : Prop where
  hz : f.1 < 2 ^ w
  ho : f.2 < 2 ^ w
  bz : ∀ i, i < w → (B f.1 i = true ↔ ∀ s, S s → B s i = false)
  bo : ∀ i, i < w → (B f.2 i = true ↔ ∀ s, S s → B s i = true)
theorem Tells.uniq {w : Nat} {S : Nat → Prop} {f g : F2} (a : Tells w S f) (b : Tells w S g) : f = g := by
  apply Prod.ext
  · refine b_ext fun i => ?_
    by_cases h : i < w
    · exact Bool.eq_iff_iff.mpr ((a.bz i h).trans (b.bz i h).symm)
    · rw [b_off a.hz h, b_off b.hz h]
  · refine b_ext fun i => ?_
    by_cases h : i < w
    · exact Bool.eq_iff_iff.mpr ((a.bo i h).trans (b.bo i h).symm)
    · rw [b_off a.ho h, b_off b.ho h]
theorem Tells.congr {w : Nat} {S T : Nat → Prop} {f : F2} (a : Tells w S f) (h : ∀ s, S s ↔ T s) : Tells w T f := by
  have e : S = T := funext fun s => propext (h s)
  rw [← e]; exact a
/-- by witnesses: each bit is known for all, or two differ there -/
theorem Tells.mk' {w : Nat} {S : Nat → Prop} {f : F2} (hz : f.1 < 2 ^ w) (ho : f.2 < 2 ^ w) (h : ∀ i, i < w → (B f.1 i = true ∧ B f.2 i = false ∧ (∀ s, S s → B s i = false) ∧ (∃ s, S s)) ∨ (B f.1 i = false ∧ B f.2 i = true ∧ (∀ s, S s → B s i = true) ∧ (∃ s, S s)) ∨ (B f.1 i = false ∧ B f.2 i = false ∧ (∃ s, S s ∧ B s i = true) ∧ ∃ s, S s ∧ B s i = false)) : Tells w S f := by
  refine ⟨hz, ho, fun i hi => ?_, fun i hi => ?_⟩
  · rcases h i hi with ⟨h1, h2, h3, s, hs⟩ | ⟨h1, h2, h3, s, hs⟩ | ⟨h1, h2, ⟨s, hs, b1⟩, ⟨t, ht, b0⟩⟩
    · exact ⟨fun _ => h3, fun _ => h1⟩
    · exact ⟨fun e => (no_ft h1 e).elim, fun e => (no_ft (e s hs) (h3 s hs)).elim⟩
    · exact ⟨fun e => (no_ft h1 e).elim, fun e => (no_ft (e s hs) b1).elim⟩
  · rcases h i hi with ⟨h1, h2, h3, s, hs⟩ | ⟨h1, h2, h3, s, hs⟩ | ⟨h1, h2, ⟨s, hs, b1⟩, ⟨t, ht, b0⟩⟩
    · exact ⟨fun e => (no_ft h2 e).elim, fun e => (no_ft (h3 s hs) (e s hs)).elim⟩
    · exact ⟨fun _ => h3, fun _ => h2⟩
    · exact ⟨fun e => (no_ft h2 e).elim, fun e => (no_ft b0 (e t ht)).elim⟩
theorem Fc.not {w : Nat} {f : F2} (c : Fc w f) (i : Nat) : ¬ (B f.1 i = true ∧ B f.2 i = true) := fun ⟨h1, h2⟩ => by
  have e := congrArg (fun n => B n i) c.no
  simp only [B, Nat.testBit_and, Nat.zero_testBit] at e
  rw [show f.1.testBit i = true from h1, show f.2.testBit i = true from h2] at e
  cases e
def great (w : Nat) (f : F2) : Nat := most w ^^^ f.1
theorem b_great {w : Nat} {f : F2} (c : Fc w f) (i : Nat) : B (great w f) i = (decide (i < w) && !B f.1 i) := by
  unfold great B
  rw [Nat.testBit_xor, show (most w).testBit i = decide (i < w) from b_most w i]
  by_cases h : i < w
  · rw [decide_eq_true h]; cases f.1.testBit i <;> rfl
  · rw [decide_eq_false h, show f.1.testBit i = false from b_off c.hz h]; rfl
theorem great_lt {w : Nat} {f : F2} (c : Fc w f) : great w f < 2 ^ w := lt_of_b fun i h => by rw [b_great c, decide_eq_false h]; rfl
theorem fit_least {w : Nat} {f : F2} (c : Fc w f) : Fit w f f.2 := ⟨c.ho, fun i h => by
  cases e : B f.2 i with
  | false => rfl
  | true => exact absurd ⟨h, e⟩ (c.not i), fun i h => h⟩
theorem fit_great {w : Nat} {f : F2} (c : Fc w f) : Fit w f (great w f) := ⟨great_lt c, fun i h => by rw [b_great c, h]; simp, fun i h => by
  have hi : i < w := by
    by_cases q : i < w
    · exact q
    · have h' : B f.2 i = false := b_off c.ho q
      rw [h] at h'; cases h'
  have hz : B f.1 i = false := by
    cases e : B f.1 i with
    | false => rfl
    | true => exact absurd ⟨e, h⟩ (c.not i)
  rw [b_great c, decide_eq_true hi, hz]; rfl⟩
/-- each bit is 0, 1 or open -/
theorem Fc.three {w : Nat} {f : F2} (c : Fc w f) {i : Nat} (hi : i < w) : (B f.1 i = true ∧ B f.2 i = false) ∨ (B f.1 i = false ∧ B f.2 i = true) ∨ (B f.1 i = false ∧ B f.2 i = false ∧ B (great w f) i = true) := by
  cases e1 : B f.1 i <;> cases e2 : B f.2 i
  · refine .inr (.inr ⟨rfl, rfl, ?_⟩)
    rw [b_great c, decide_eq_true hi, e1]; rfl
  · exact .inr (.inl ⟨rfl, rfl⟩)
  · exact .inl ⟨rfl, rfl⟩
  · exact absurd ⟨e1, e2⟩ (c.not i)
theorem tells_copy {w : Nat} {f : F2} (c : Fc w f) : Tells w (Fit w f) f := by
  refine Tells.mk' c.hz c.ho fun i hi => ?_
  rcases c.three hi with ⟨h1, h2⟩ | ⟨h1, h2⟩ | ⟨h1, h2, h3⟩
  · exact .inl ⟨h1, h2, fun s hs => hs.z i h1, _, fit_least c⟩
  · exact .inr (.inl ⟨h1, h2, fun s hs => hs.o i h2, _, fit_least c⟩)
  · exact .inr (.inr ⟨h1, h2, ⟨_, fit_great c, h3⟩, _, fit_least c, h2⟩)
theorem tells_num {w n : Nat} (h : n < 2 ^ w) : Tells w (· = n) (most w ^^^ n, n) := by
  have hb : ∀ i, B (most w ^^^ n) i = (decide (i < w) && !B n i) := fun i => by
    unfold B
    rw [Nat.testBit_xor, show (most w).testBit i = decide (i < w) from b_most w i]
    by_cases q : i < w
    · rw [decide_eq_true q]; cases n.testBit i <;> rfl
    · rw [decide_eq_false q, show n.testBit i = false from b_off h q]; rfl
  refine Tells.mk' (lt_of_b fun i q => by rw [hb, decide_eq_false q]; rfl) h fun i hi => ?_
  have hbi := hb i
  rw [decide_eq_true hi, Bool.true_and] at hbi
  cases e : B n i with
  | false => exact .inl ⟨by rw [hbi, e]; rfl, rfl, fun s hs => by rw [hs]; exact e, n, rfl⟩
  | true => exact .inr (.inl ⟨by rw [hbi, e]; rfl, rfl, fun s hs => by rw [hs]; exact e, n, rfl⟩)
/-- what comes of two names -/
def Of2 (w : Nat) (y z : F2) (g : Nat → Nat → Nat) (s : Nat) : Prop := ∃ a b, Fit w y a ∧ Fit w z b ∧ s = g a b
theorem and_lt {w a b : Nat} (h : a < 2 ^ w) : a &&& b < 2 ^ w := Nat.lt_of_le_of_lt Nat.and_le_left h
theorem tells_both {w : Nat} {y z : F2} (cy : Fc w y) (cz : Fc w z) : Tells w (Of2 w y z fun a b => a &&& b) (fBoth (most w) y z) := by
  refine Tells.mk' (Nat.or_lt_two_pow cy.hz cz.hz) (and_lt cy.ho) fun i hi => ?_
  have ly := fit_least cy; have lz := fit_least cz; have gy := fit_great cy; have gz := fit_great cz
  simp only [fBoth, B, Nat.testBit_or, Nat.testBit_and]
  rcases cy.three hi with ⟨h1, h2⟩ | ⟨h1, h2⟩ | ⟨h1, h2, h3⟩
  · refine .inl ⟨by rw [show y.1.testBit i = true from h1]; rfl, by rw [show y.2.testBit i = false from h2]; rfl, fun s hs => ?_, _, _, _, ly, lz, rfl⟩
    obtain ⟨a, b, ha, hb, rfl⟩ := hs
    rw [Nat.testBit_and, show a.testBit i = false from ha.z i h1]; rfl
  · rcases cz.three hi with ⟨k1, k2⟩ | ⟨k1, k2⟩ | ⟨k1, k2, k3⟩
    · refine .inl ⟨by rw [show z.1.testBit i = true from k1, Bool.or_true], by rw [show z.2.testBit i = false from k2, Bool.and_false], fun s hs => ?_, _, _, _, ly, lz, rfl⟩
      obtain ⟨a, b, ha, hb, rfl⟩ := hs
      rw [Nat.testBit_and, show b.testBit i = false from hb.z i k1, Bool.and_false]
    · refine .inr (.inl ⟨by rw [show y.1.testBit i = false from h1, show z.1.testBit i = false from k1]; rfl, by rw [show y.2.testBit i = true from h2, show z.2.testBit i = true from k2]; rfl, fun s hs => ?_, _, _, _, ly, lz, rfl⟩)
      obtain ⟨a, b, ha, hb, rfl⟩ := hs
      rw [Nat.testBit_and, show a.testBit i = true from ha.o i h2, show b.testBit i = true from hb.o i k2]; rfl
    · refine .inr (.inr ⟨by rw [show y.1.testBit i = false from h1, show z.1.testBit i = false from k1]; rfl, by rw [show z.2.testBit i = false from k2, Bool.and_false], ⟨_, ⟨_, _, ly, gz, rfl⟩, ?_⟩, _, ⟨_, _, ly, lz, rfl⟩, ?_⟩)
      · rw [Nat.testBit_and, show y.2.testBit i = true from h2, show (great w z).testBit i = true from k3]; rfl
      · rw [Nat.testBit_and, show z.2.testBit i = false from k2, Bool.and_false]
  · rcases cz.three hi with ⟨k1, k2⟩ | ⟨k1, k2⟩ | ⟨k1, k2, k3⟩
    · refine .inl ⟨by rw [show z.1.testBit i = true from k1, Bool.or_true], by rw [show z.2.testBit i = false from k2, Bool.and_false], fun s hs => ?_, _, _, _, ly, lz, rfl⟩
      obtain ⟨a, b, ha, hb, rfl⟩ := hs
      rw [Nat.testBit_and, show b.testBit i = false from hb.z i k1, Bool.and_false]
    · refine .inr (.inr ⟨by rw [show y.1.testBit i = false from h1, show z.1.testBit i = false from k1]; rfl, by rw [show y.2.testBit i = false from h2]; rfl, ⟨_, ⟨_, _, gy, lz, rfl⟩, ?_⟩, _, ⟨_, _, ly, lz, rfl⟩, ?_⟩)
      · rw [Nat.testBit_and, show (great w y).testBit i = true from h3, show z.2.testBit i = true from k2]; rfl
      · rw [Nat.testBit_and, show y.2.testBit i = false from h2]; rfl
    · refine .inr (.inr ⟨by rw [show y.1.testBit i = false from h1, show z.1.testBit i = false from k1]; rfl, by rw [show y.2.testBit i = false from h2]; rfl, ⟨_, ⟨_, _, gy, gz, rfl⟩, ?_⟩, _, ⟨_, _, ly, lz, rfl⟩, ?_⟩)
      · rw [Nat.testBit_and, show (great w y).testBit i = true from h3, show (great w z).testBit i = true from k3]; rfl
      · rw [Nat.testBit_and, show y.2.testBit i = false from h2]; rfl
end K12

set_option Elab.async false
set_option linter.all false
set_option maxRecDepth 100000
set_option maxHeartbeats 4000000
namespace K12
open PySem
/-! ### bit by bit -/
theorem poss {w : Nat} {f : F2} (c : Fc w f) {i : Nat} (hi : i < w) (p : Bool) (h : (if p = true then B f.1 i else B f.2 i) = false) : ∃ a, Fit w f a ∧ B a i = p := by
  cases p with
  | false => exact ⟨_, fit_least c, h⟩
  | true =>
    refine ⟨_, fit_great c, ?_⟩
    have h' : B f.1 i = false := h
    rw [b_great c, decide_eq_true hi, h']; rfl
theorem must {w : Nat} {f : F2} {a i : Nat} (h : Fit w f a) : (if B a i = true then B f.1 i else B f.2 i) = false := by
  cases e : B a i with
  | true =>
    rw [if_pos rfl]
    cases e1 : B f.1 i with
    | false => rfl
    | true => exact (no_ft (h.z i e1) e).elim
  | false =>
    rw [if_neg (by decide)]
    cases e1 : B f.2 i with
    | false => rfl
    | true => exact (no_ft e (h.o i e1)).elim
def cB (v : Bool) (φ : Bool → Bool → Bool) (y1 y2 z1 z2 : Bool) : Bool := ((y2 || z2) || (φ false false == v)) && (((y2 || z1) || (φ false true == v)) && (((y1 || z2) || (φ true false == v)) && ((y1 || z1) || (φ true true == v))))
theorem cB_iff {w : Nat} {y z : F2} (cy : Fc w y) (cz : Fc w z) (φ : Bool → Bool → Bool) {i : Nat} (hi : i < w) (v : Bool) : cB v φ (B y.1 i) (B y.2 i) (B z.1 i) (B z.2 i) = true ↔ ∀ a b, Fit w y a → Fit w z b → φ (B a i) (B b i) = v := by
  constructor
  · intro h a b ha hb
    have h1 := must ha (i := i)
    have h2 := must hb (i := i)
    unfold cB at h
    revert h h1 h2
    generalize B a i = p
    generalize B b i = q
    generalize B y.1 i = y1
    generalize B y.2 i = y2
    generalize B z.1 i = z1
    generalize B z.2 i = z2
    intro h h1 h2
    cases p <;> cases q <;> simp at h1 h2 <;> subst h1 h2 <;> simp at h <;> simp [h]
  · intro h
    unfold cB
    have key : ∀ p q : Bool, (if p = true then B y.1 i else B y.2 i) = false → (if q = true then B z.1 i else B z.2 i) = false → φ p q = v := fun p q hp hq => by
      obtain ⟨a, ha, rfl⟩ := poss cy hi p hp
      obtain ⟨b, hb, rfl⟩ := poss cz hi q hq
      exact h a b ha hb
    have k1 := key false false
    have k2 := key false true
    have k3 := key true false
    have k4 := key true true
    simp only [Bool.false_eq_true, if_false, if_true] at k1 k2 k3 k4
    revert k1 k2 k3 k4
    generalize B y.1 i = y1
    generalize B y.2 i = y2
    generalize B z.1 i = z1
    generalize B z.2 i = z2
    intro k1 k2 k3 k4
    cases y1 <;> cases y2 <;> cases z1 <;> cases z2 <;> simp at k1 k2 k3 k4 ⊢ <;> simp [k1, k2, k3, k4]
theorem tells_bits {w : Nat} {y z : F2} (cy : Fc w y) (cz : Fc w z) (g : Nat → Nat → Nat) (φ : Bool → Bool → Bool) (hg : ∀ a b i, B (g a b) i = φ (B a i) (B b i)) {r : F2} (h1 : r.1 < 2 ^ w) (h2 : r.2 < 2 ^ w)
    (e1 : ∀ i, i < w → B r.1 i = cB false φ (B y.1 i) (B y.2 i) (B z.1 i) (B z.2 i)) (e2 : ∀ i, i < w → B r.2 i = cB true φ (B y.1 i) (B y.2 i) (B z.1 i) (B z.2 i)) : Tells w (Of2 w y z g) r := by
  refine ⟨h1, h2, fun i hi => ?_, fun i hi => ?_⟩
  · rw [e1 i hi, cB_iff cy cz φ hi]
    exact ⟨fun h s hs => by obtain ⟨a, b, ha, hb, rfl⟩ := hs; rw [hg]; exact h a b ha hb, fun h a b ha hb => by rw [← hg]; exact h _ ⟨a, b, ha, hb, rfl⟩⟩
  · rw [e2 i hi, cB_iff cy cz φ hi]
    exact ⟨fun h s hs => by obtain ⟨a, b, ha, hb, rfl⟩ := hs; rw [hg]; exact h a b ha hb, fun h a b ha hb => by rw [← hg]; exact h _ ⟨a, b, ha, hb, rfl⟩⟩
theorem tells_either {w : Nat} {y z : F2} (cy : Fc w y) (cz : Fc w z) : Tells w (Of2 w y z fun a b => a ||| b) (fEither (most w) y z) := by
  refine tells_bits cy cz (fun a b => a ||| b) (fun p q => p || q) (fun a b i => Nat.testBit_or ..) (and_lt cy.hz) (Nat.or_lt_two_pow cy.ho cz.ho) (fun i hi => ?_) (fun i hi => ?_)
  · have ny := cy.not i; have nz := cz.not i
    simp only [fEither, B, Nat.testBit_and, cB] at ny nz ⊢
    revert ny nz
    cases y.1.testBit i <;> cases y.2.testBit i <;> cases z.1.testBit i <;> cases z.2.testBit i <;> simp
  · have ny := cy.not i; have nz := cz.not i
    simp only [fEither, B, Nat.testBit_or, cB] at ny nz ⊢
    revert ny nz
    cases y.1.testBit i <;> cases y.2.testBit i <;> cases z.1.testBit i <;> cases z.2.testBit i <;> simp
theorem tells_unlike {w : Nat} {y z : F2} (cy : Fc w y) (cz : Fc w z) : Tells w (Of2 w y z fun a b => a ^^^ b) (fUnlike (most w) y z) := by
  refine tells_bits cy cz (fun a b => a ^^^ b) (fun p q => p ^^ q) (fun a b i => Nat.testBit_xor ..) (Nat.or_lt_two_pow (and_lt cy.hz) (and_lt cy.ho)) (Nat.or_lt_two_pow (and_lt cy.hz) (and_lt cy.ho)) (fun i hi => ?_) (fun i hi => ?_)
  · have ny := cy.not i; have nz := cz.not i
    simp only [fUnlike, B, Nat.testBit_and, Nat.testBit_or, cB] at ny nz ⊢
    revert ny nz
    cases y.1.testBit i <;> cases y.2.testBit i <;> cases z.1.testBit i <;> cases z.2.testBit i <;> simp
  · have ny := cy.not i; have nz := cz.not i
    simp only [fUnlike, B, Nat.testBit_and, Nat.testBit_or, cB] at ny nz ⊢
    revert ny nz
    cases y.1.testBit i <;> cases y.2.testBit i <;> cases z.1.testBit i <;> cases z.2.testBit i <;> simp
/-! ### shifts -/
theorem tells_up {w k : Nat} {y : F2} (cy : Fc w y) : Tells w (fun s => ∃ a, Fit w y a ∧ s = (a * 2 ^ k) % 2 ^ w) (fUp (most w) y k) := by
  have hb : ∀ a i, i < w → B ((a * 2 ^ k) % 2 ^ w) i = (decide (k ≤ i) && B a (i - k)) := fun a i hi => by
    unfold B
    rw [Nat.testBit_mod_two_pow, decide_eq_true hi, Bool.true_and, Nat.testBit_mul_two_pow]
  have h1 : ∀ i, B (fUp (most w) y k).1 i = (((decide (k ≤ i) && B y.1 (i - k)) || decide (i < k)) && decide (i < w)) := fun i => by
    simp only [fUp, B, Nat.testBit_and, Nat.testBit_or, Nat.testBit_mul_two_pow, Nat.testBit_two_pow_sub_one]
    rw [show (most w).testBit i = decide (i < w) from b_most w i]
  have h2 : ∀ i, B (fUp (most w) y k).2 i = ((decide (k ≤ i) && B y.2 (i - k)) && decide (i < w)) := fun i => by
    simp only [fUp, B, Nat.testBit_and, Nat.testBit_mul_two_pow]
    rw [show (most w).testBit i = decide (i < w) from b_most w i]
  refine Tells.mk' (lt_of_b fun i q => by rw [h1, decide_eq_false q, Bool.and_false]) (lt_of_b fun i q => by rw [h2, decide_eq_false q, Bool.and_false]) fun i hi => ?_
  have ly := fit_least cy; have gy := fit_great cy
  by_cases hk : k ≤ i
  · have hik : i - k < w := by omega
    have r1 : B (fUp (most w) y k).1 i = B y.1 (i - k) := by rw [h1, decide_eq_true hk, decide_eq_false (show ¬ i < k by omega), decide_eq_true hi]; simp
    have r2 : B (fUp (most w) y k).2 i = B y.2 (i - k) := by rw [h2, decide_eq_true hk, decide_eq_true hi]; simp
    have rb : ∀ a, B ((a * 2 ^ k) % 2 ^ w) i = B a (i - k) := fun a => by rw [hb a i hi, decide_eq_true hk, Bool.true_and]
    rcases cy.three hik with ⟨a1, a2⟩ | ⟨a1, a2⟩ | ⟨a1, a2, a3⟩
    · exact .inl ⟨by rw [r1, a1], by rw [r2, a2], fun s hs => by obtain ⟨a, ha, rfl⟩ := hs; rw [rb]; exact ha.z _ a1, _, _, ly, rfl⟩
    · exact .inr (.inl ⟨by rw [r1, a1], by rw [r2, a2], fun s hs => by obtain ⟨a, ha, rfl⟩ := hs; rw [rb]; exact ha.o _ a2, _, _, ly, rfl⟩)
    · exact .inr (.inr ⟨by rw [r1, a1], by rw [r2, a2], ⟨_, ⟨_, gy, rfl⟩, by rw [rb]; exact a3⟩, _, ⟨_, ly, rfl⟩, by rw [rb]; exact a2⟩)
  · refine .inl ⟨by rw [h1, decide_eq_true (show i < k by omega), decide_eq_true hi]; simp, by rw [h2, decide_eq_false hk]; rfl, fun s hs => ?_, _, _, ly, rfl⟩
    obtain ⟨a, ha, rfl⟩ := hs
    rw [hb a i hi, decide_eq_false hk]; rfl
theorem tells_down {w k : Nat} {y : F2} (cy : Fc w y) : Tells w (fun s => ∃ a, Fit w y a ∧ s = a >>> k) (fDown (most w) y k) := by
  have hb : ∀ a i, B (a >>> k) i = B a (k + i) := fun a i => Nat.testBit_shiftRight a
  have h1 : ∀ i, B (fDown (most w) y k).1 i = (B y.1 (k + i) || (decide (i < w) ^^ decide (k + i < w))) := fun i => by
    simp only [fDown, B, Nat.testBit_or, Nat.testBit_xor, Nat.testBit_shiftRight]
    rw [show (most w).testBit i = decide (i < w) from b_most w i, show (most w).testBit (k + i) = decide (k + i < w) from b_most w _]
  have h2 : ∀ i, B (fDown (most w) y k).2 i = B y.2 (k + i) := fun i => Nat.testBit_shiftRight _
  refine Tells.mk' (lt_of_b fun i q => by rw [h1, b_off cy.hz (show ¬ k + i < w by omega), decide_eq_false q, decide_eq_false (show ¬ k + i < w by omega)]; rfl) (lt_of_b fun i q => by rw [h2]; exact b_off cy.ho (by omega)) fun i hi => ?_
  have ly := fit_least cy; have gy := fit_great cy
  by_cases hk : k + i < w
  · have r1 : B (fDown (most w) y k).1 i = B y.1 (k + i) := by rw [h1, decide_eq_true hk, decide_eq_true hi]; simp
    rcases cy.three hk with ⟨a1, a2⟩ | ⟨a1, a2⟩ | ⟨a1, a2, a3⟩
    · exact .inl ⟨by rw [r1, a1], by rw [h2, a2], fun s hs => by obtain ⟨a, ha, rfl⟩ := hs; rw [hb]; exact ha.z _ a1, _, _, ly, rfl⟩
    · exact .inr (.inl ⟨by rw [r1, a1], by rw [h2, a2], fun s hs => by obtain ⟨a, ha, rfl⟩ := hs; rw [hb]; exact ha.o _ a2, _, _, ly, rfl⟩)
    · exact .inr (.inr ⟨by rw [r1, a1], by rw [h2, a2], ⟨_, ⟨_, gy, rfl⟩, by rw [hb]; exact a3⟩, _, ⟨_, ly, rfl⟩, by rw [hb]; exact a2⟩)
  · refine .inl ⟨by rw [h1, decide_eq_false hk, decide_eq_true hi]; simp, by rw [h2]; exact b_off cy.ho hk, fun s hs => ?_, _, _, ly, rfl⟩
    obtain ⟨a, ha, rfl⟩ := hs
    rw [hb]; exact b_off ha.lt hk
end K12

set_option Elab.async false
set_option linter.all false
set_option maxRecDepth 100000
set_option maxHeartbeats 4000000
namespace K12
open PySem
/-! ### sums -/
def cr (a b c i : Nat) : Bool := decide (2 ^ i ≤ a % 2 ^ i + b % 2 ^ i + c)
theorem b_add (a b c i : Nat) (hc : c ≤ 1) : B (a + b + c) i = (B a i ^^ (B b i ^^ cr a b c i)) := by
  unfold B cr
  rw [Nat.testBit_eq_decide_div_mod_eq, Nat.testBit_eq_decide_div_mod_eq, Nat.testBit_eq_decide_div_mod_eq]
  have hp : 0 < 2 ^ i := Nat.two_pow_pos i
  have ha := Nat.div_add_mod a (2 ^ i)
  have hb := Nat.div_add_mod b (2 ^ i)
  have la := Nat.mod_lt a hp
  have lb := Nat.mod_lt b hp
  have e : (a + b + c) / 2 ^ i = a / 2 ^ i + b / 2 ^ i + (a % 2 ^ i + b % 2 ^ i + c) / 2 ^ i := by
    have e1 : a + b + c = (a % 2 ^ i + b % 2 ^ i + c) + 2 ^ i * (a / 2 ^ i + b / 2 ^ i) := by
      rw [Nat.mul_add]; omega
    rw [e1, Nat.add_mul_div_left _ _ hp]
    omega
  rw [e]
  generalize a / 2 ^ i = p
  generalize b / 2 ^ i = q
  by_cases h : 2 ^ i ≤ a % 2 ^ i + b % 2 ^ i + c
  · have d : (a % 2 ^ i + b % 2 ^ i + c) / 2 ^ i = 1 := Nat.div_eq_of_lt_le (by omega) (by omega)
    rw [d, decide_eq_true h]
    by_cases hp1 : p % 2 = 1 <;> by_cases hq1 : q % 2 = 1 <;> simp only [hp1, hq1] <;> simp <;> omega
  · have d : (a % 2 ^ i + b % 2 ^ i + c) / 2 ^ i = 0 := Nat.div_eq_of_lt (by omega)
    rw [d, decide_eq_false h]
    by_cases hp1 : p % 2 = 1 <;> by_cases hq1 : q % 2 = 1 <;> simp only [hp1, hq1] <;> simp <;> omega
theorem sub_le {a b : Nat} (h : ∀ j, B a j = true → B b j = true) : a ≤ b := by
  have e : a &&& b = a := b_ext fun j => by
    unfold B
    rw [Nat.testBit_and]
    cases e : a.testBit j with
    | false => rfl
    | true => rw [show b.testBit j = true from h j e]; rfl
  rw [← e]
  exact Nat.and_le_right
theorem mod_le {a b i : Nat} (h : ∀ j, B a j = true → B b j = true) : a % 2 ^ i ≤ b % 2 ^ i := sub_le fun j e => by
  unfold B at e ⊢
  rw [Nat.testBit_mod_two_pow] at e ⊢
  simp only [Bool.and_eq_true] at e ⊢
  exact ⟨e.1, h j e.2⟩
theorem fit_lo {w : Nat} {f : F2} {x i : Nat} (h : Fit w f x) : f.2 % 2 ^ i ≤ x % 2 ^ i := mod_le h.o
theorem fit_sub_great {w : Nat} {f : F2} {x : Nat} (c : Fc w f) (h : Fit w f x) : ∀ j, B x j = true → B (great w f) j = true := fun j e => by
  have hj : j < w := by
    by_cases q : j < w
    · exact q
    · exact (no_ft (b_off h.lt q) e).elim
  have hz : B f.1 j = false := by
    cases e1 : B f.1 j with
    | false => rfl
    | true => exact (no_ft (h.z j e1) e).elim
  rw [b_great c, decide_eq_true hj, hz]; rfl
theorem fit_hi {w : Nat} {f : F2} {x i : Nat} (c : Fc w f) (h : Fit w f x) : x % 2 ^ i ≤ great w f % 2 ^ i := mod_le (fit_sub_great c h)
theorem cr_mono {a b a' b' c i : Nat} (h1 : a % 2 ^ i ≤ a' % 2 ^ i) (h2 : b % 2 ^ i ≤ b' % 2 ^ i) (h : cr a b c i = true) : cr a' b' c i = true := by
  unfold cr at h ⊢
  have := of_decide_eq_true h
  exact decide_eq_true (by omega)
/-- an open bit set in the least word -/
theorem fit_set {w : Nat} {f : F2} (c : Fc w f) {i : Nat} (hi : i < w) (h1 : B f.1 i = false) : Fit w f (f.2 ||| 2 ^ i) ∧ B (f.2 ||| 2 ^ i) i = true ∧ (f.2 ||| 2 ^ i) % 2 ^ i = f.2 % 2 ^ i := by
  have hb : ∀ j, B (f.2 ||| 2 ^ i) j = (B f.2 j || decide (i = j)) := fun j => by
    unfold B
    rw [Nat.testBit_or, Nat.testBit_two_pow]
  refine ⟨⟨Nat.or_lt_two_pow c.ho (Nat.pow_lt_pow_right (by decide) hi), fun j e => ?_, fun j e => ?_⟩, ?_, ?_⟩
  · rw [hb]
    have n1 : B f.2 j = false := by
      cases e2 : B f.2 j with
      | false => rfl
      | true => exact (c.not j ⟨e, e2⟩).elim
    have n2 : i ≠ j := fun q => no_ft h1 (by rw [q]; exact e)
    rw [n1, decide_eq_false n2]; rfl
  · rw [hb, e]; rfl
  · rw [hb, decide_eq_true rfl, Bool.or_true]
  · refine b_ext fun j => ?_
    unfold B
    rw [Nat.testBit_mod_two_pow, Nat.testBit_mod_two_pow, show (f.2 ||| 2 ^ i).testBit j = (B f.2 j || decide (i = j)) from hb j]
    by_cases q : j < i
    · rw [decide_eq_false (show ¬ i = j by omega), Bool.or_false]
    · rw [decide_eq_false q]; rfl
theorem cr_mod {a a' b b' c i : Nat} (h1 : a % 2 ^ i = a' % 2 ^ i) (h2 : b % 2 ^ i = b' % 2 ^ i) : cr a b c i = cr a' b' c i := by unfold cr; rw [h1, h2]
theorem tells_carried {w : Nat} {y z : F2} (cy : Fc w y) (cz : Fc w z) {c : Nat} (hc : c ≤ 1) : Tells w (Of2 w y z fun a b => (a + b + c) % 2 ^ w) (fCarried (most w) y z c) := by
  have hs : ∀ a b i, i < w → B ((a + b + c) % 2 ^ w) i = (B a i ^^ (B b i ^^ cr a b c i)) := fun a b i hi => by
    rw [← b_add a b c i hc]
    unfold B
    rw [Nat.testBit_mod_two_pow, decide_eq_true hi, Bool.true_and]
  have hk : ∀ i, B (((y.1 ||| y.2) &&& (z.1 ||| z.2)) - (((y.1 ||| y.2) &&& (z.1 ||| z.2)) &&& ((y.2 + z.2 + c) ^^^ ((most w ^^^ y.1) + (most w ^^^ z.1) + c)))) i = (((B y.1 i || B y.2 i) && (B z.1 i || B z.2 i)) && !(B (y.2 + z.2 + c) i ^^ B (great w y + great w z + c) i)) := fun i => by
    rw [b_minus]
    unfold B great
    rw [Nat.testBit_and, Nat.testBit_or, Nat.testBit_or, Nat.testBit_xor]
  have h1 : ∀ i, B (fCarried (most w) y z c).1 i = ((((B y.1 i || B y.2 i) && (B z.1 i || B z.2 i)) && !(B (y.2 + z.2 + c) i ^^ B (great w y + great w z + c) i)) && !B (y.2 + z.2 + c) i) := fun i => by
    show B (_ - (_ &&& _)) i = _
    rw [b_minus, hk]
  have h2 : ∀ i, B (fCarried (most w) y z c).2 i = ((((B y.1 i || B y.2 i) && (B z.1 i || B z.2 i)) && !(B (y.2 + z.2 + c) i ^^ B (great w y + great w z + c) i)) && B (y.2 + z.2 + c) i) := fun i => by
    have := hk i
    show (_ &&& _ : Nat).testBit i = _
    rw [Nat.testBit_and]
    unfold B at this ⊢
    rw [this]
  have off : ∀ i, ¬ i < w → (B y.1 i || B y.2 i) = false := fun i q => by rw [b_off cy.hz q, b_off cy.ho q]; rfl
  refine Tells.mk' (lt_of_b fun i q => by rw [h1, off i q]; rfl) (lt_of_b fun i q => by rw [h2, off i q]; rfl) fun i hi => ?_
  have ly := fit_least cy; have lz := fit_least cz; have gy := fit_great cy; have gz := fit_great cz
  by_cases oy : B y.1 i = false ∧ B y.2 i = false
  · -- y is open here
    obtain ⟨o1, o2⟩ := oy
    obtain ⟨f1, f2, f3⟩ := fit_set cy hi o1
    have e1 := hs y.2 z.2 i hi
    have e2 := hs (y.2 ||| 2 ^ i) z.2 i hi
    rw [f2, cr_mod f3 rfl] at e2
    rw [o2] at e1
    refine .inr (.inr ⟨by rw [h1, o1, o2]; rfl, by rw [h2, o1, o2]; rfl, ?_⟩)
    cases q : (B z.2 i ^^ cr y.2 z.2 c i) with
    | false => exact ⟨⟨_, ⟨_, _, f1, lz, rfl⟩, by rw [e2, q]; rfl⟩, _, ⟨_, _, ly, lz, rfl⟩, by rw [e1, q]; rfl⟩
    | true => exact ⟨⟨_, ⟨_, _, ly, lz, rfl⟩, by rw [e1, q]; rfl⟩, _, ⟨_, _, f1, lz, rfl⟩, by rw [e2, q]; rfl⟩
  · by_cases oz : B z.1 i = false ∧ B z.2 i = false
    · obtain ⟨o1, o2⟩ := oz
      obtain ⟨f1, f2, f3⟩ := fit_set cz hi o1
      have e1 := hs y.2 z.2 i hi
      have e2 := hs y.2 (z.2 ||| 2 ^ i) i hi
      rw [f2, cr_mod rfl f3] at e2
      rw [o2] at e1
      refine .inr (.inr ⟨by rw [h1, o1, o2]; simp, by rw [h2, o1, o2]; simp, ?_⟩)
      cases q : (B y.2 i ^^ cr y.2 z.2 c i) with
      | false => exact ⟨⟨_, ⟨_, _, ly, f1, rfl⟩, by rw [e2]; revert q; cases B y.2 i <;> cases cr y.2 z.2 c i <;> simp⟩, _, ⟨_, _, ly, lz, rfl⟩, by rw [e1]; revert q; cases B y.2 i <;> cases cr y.2 z.2 c i <;> simp⟩
      | true => exact ⟨⟨_, ⟨_, _, ly, lz, rfl⟩, by rw [e1]; revert q; cases B y.2 i <;> cases cr y.2 z.2 c i <;> simp⟩, _, ⟨_, _, ly, f1, rfl⟩, by rw [e2]; revert q; cases B y.2 i <;> cases cr y.2 z.2 c i <;> simp⟩
    · -- both known
      have ky : (B y.1 i || B y.2 i) = true := by revert oy; cases B y.1 i <;> cases B y.2 i <;> simp
      have kz : (B z.1 i || B z.2 i) = true := by revert oz; cases B z.1 i <;> cases B z.2 i <;> simp
      have vy : ∀ a, Fit w y a → B a i = B y.2 i := fun a ha => by
        cases e1 : B y.2 i with
        | true => exact ha.o i e1
        | false => rw [e1, Bool.or_false] at ky; exact ha.z i ky
      have vz : ∀ b, Fit w z b → B b i = B z.2 i := fun b hb => by
        cases e1 : B z.2 i with
        | true => exact hb.o i e1
        | false => rw [e1, Bool.or_false] at kz; exact hb.z i kz
      have bl : B (y.2 + z.2 + c) i = (B y.2 i ^^ (B z.2 i ^^ cr y.2 z.2 c i)) := b_add _ _ _ _ hc
      have bg : B (great w y + great w z + c) i = (B y.2 i ^^ (B z.2 i ^^ cr (great w y) (great w z) c i)) := by rw [b_add _ _ _ _ hc, vy _ gy, vz _ gz]
      have r1 := h1 i
      have r2 := h2 i
      rw [ky, kz, bl, bg] at r1 r2
      have lo : ∀ a b, Fit w y a → Fit w z b → cr y.2 z.2 c i = true → cr a b c i = true := fun a b ha hb => cr_mono (fit_lo ha) (fit_lo hb)
      have hi' : ∀ a b, Fit w y a → Fit w z b → cr a b c i = true → cr (great w y) (great w z) c i = true := fun a b ha hb => cr_mono (fit_hi cy ha) (fit_hi cz hb)
      have el := hs y.2 z.2 i hi
      have eg := hs (great w y) (great w z) i hi
      rw [vy _ gy, vz _ gz] at eg
      cases c1 : cr y.2 z.2 c i with
      | true =>
        have c2 := hi' _ _ ly lz c1
        have all : ∀ s, Of2 w y z (fun a b => (a + b + c) % 2 ^ w) s → B s i = (B y.2 i ^^ (B z.2 i ^^ true)) := fun s ⟨a, b, ha, hb, e⟩ => by rw [e, hs a b i hi, vy a ha, vz b hb, lo a b ha hb c1]
        rw [c1, c2] at r1 r2
        cases v : (B y.2 i ^^ (B z.2 i ^^ true)) with
        | false => rw [v] at r1 r2 all; exact .inl ⟨by rw [r1]; rfl, by rw [r2]; rfl, all, _, _, _, ly, lz, rfl⟩
        | true => rw [v] at r1 r2 all; exact .inr (.inl ⟨by rw [r1]; rfl, by rw [r2]; rfl, all, _, _, _, ly, lz, rfl⟩)
      | false =>
        cases c2 : cr (great w y) (great w z) c i with
        | false =>
          have all : ∀ s, Of2 w y z (fun a b => (a + b + c) % 2 ^ w) s → B s i = (B y.2 i ^^ (B z.2 i ^^ false)) := fun s ⟨a, b, ha, hb, e⟩ => by
            rw [e, hs a b i hi, vy a ha, vz b hb]
            cases c3 : cr a b c i with
            | false => rfl
            | true => exact (no_ft c2 (hi' a b ha hb c3)).elim
          rw [c1, c2] at r1 r2
          cases v : (B y.2 i ^^ (B z.2 i ^^ false)) with
          | false => rw [v] at r1 r2 all; exact .inl ⟨by rw [r1]; rfl, by rw [r2]; rfl, all, _, _, _, ly, lz, rfl⟩
          | true => rw [v] at r1 r2 all; exact .inr (.inl ⟨by rw [r1]; rfl, by rw [r2]; rfl, all, _, _, _, ly, lz, rfl⟩)
        | true =>
          rw [c1] at el r1 r2
          rw [c2] at eg r1 r2
          refine .inr (.inr ⟨?_, ?_, ?_⟩)
          · rw [r1]; cases B y.2 i <;> cases B z.2 i <;> rfl
          · rw [r2]; cases B y.2 i <;> cases B z.2 i <;> rfl
          · cases v : (B y.2 i ^^ (B z.2 i ^^ false)) with
            | false => exact ⟨⟨_, ⟨_, _, gy, gz, rfl⟩, by rw [eg]; revert v; cases B y.2 i <;> cases B z.2 i <;> simp⟩, _, ⟨_, _, ly, lz, rfl⟩, by rw [el]; exact v⟩
            | true => exact ⟨⟨_, ⟨_, _, ly, lz, rfl⟩, by rw [el]; exact v⟩, _, ⟨_, _, gy, gz, rfl⟩, by rw [eg]; revert v; cases B y.2 i <;> cases B z.2 i <;> simp⟩
theorem tells_sum {w : Nat} {y z : F2} (cy : Fc w y) (cz : Fc w z) : Tells w (Of2 w y z fun a b => (a + b) % 2 ^ w) (fSum (most w) y z) := tells_carried cy cz (Nat.zero_le 1)
/-! ### differences -/
theorem Fc.swap {w : Nat} {f : F2} (c : Fc w f) : Fc w (f.2, f.1) := ⟨c.ho, c.hz, by rw [Nat.and_comm]; exact c.no⟩
theorem b_compl {w b : Nat} (hb : b < 2 ^ w) (i : Nat) : B (most w - b) i = (decide (i < w) && !B b i) := by
  have e : most w &&& b = b := b_ext fun j => by
    unfold B
    rw [Nat.testBit_and, show (most w).testBit j = decide (j < w) from b_most w j]
    by_cases q : j < w
    · rw [decide_eq_true q, Bool.true_and]
    · rw [decide_eq_false q, show b.testBit j = false from b_off hb q]; rfl
  have h := b_minus i (most w) b
  rw [e] at h
  rw [h, b_most]
theorem fit_compl {w : Nat} {f : F2} {b : Nat} (c : Fc w f) (h : Fit w f b) : Fit w (f.2, f.1) (most w - b) := by
  have hm := most_pow w
  refine ⟨by omega, fun i e => ?_, fun i e => ?_⟩
  · rw [b_compl h.lt, show B b i = true from h.o i e]; simp
  · have hb := h.z i e
    rw [b_compl h.lt, hb]
    by_cases q : i < w
    · rw [decide_eq_true q]; rfl
    · exact (no_ft (b_off c.hz q) e).elim
end K12

set_option Elab.async false
set_option linter.all false
set_option maxRecDepth 100000
set_option maxHeartbeats 4000000
namespace K12
open PySem
theorem compl2 {w b : Nat} (h : b < 2 ^ w) : most w - (most w - b) = b := by
  have := most_pow w
  omega
theorem tells_diff {w : Nat} {y z : F2} (cy : Fc w y) (cz : Fc w z) : Tells w (Of2 w y z fun a b => (a + 2 ^ w - b) % 2 ^ w) (fDiff (most w) y z) := by
  refine (tells_carried cy cz.swap (Nat.le_refl 1)).congr fun s => ?_
  have hm := most_pow w
  constructor
  · rintro ⟨a, b, ha, hb, rfl⟩
    have hb' := fit_compl cz.swap hb
    refine ⟨a, most w - b, ha, hb', ?_⟩
    have e : a + 2 ^ w - (most w - b) = a + b + 1 := by have := hb.lt; omega
    dsimp only
    rw [e]
  · rintro ⟨a, b, ha, hb, rfl⟩
    refine ⟨a, most w - b, ha, fit_compl cz hb, ?_⟩
    have e : a + 2 ^ w - b = a + (most w - b) + 1 := by have := hb.lt; omega
    dsimp only
    rw [e]
/-! ### truths -/
theorem tells_truth {w : Nat} (hw : 1 ≤ w) {S : Nat → Prop} {nv al : Bool} (hS : ∀ s, S s → s = 0 ∨ s = 1) (ne : ∃ s, S s) (hn : nv = true ↔ ∀ s, S s → s = 0) (ha : nv = false → (al = true ↔ ∀ s, S s → s = 1)) : Tells w S (fTruth (most w) nv al) := by
  have p2 : 2 ^ 1 ≤ 2 ^ w := Nat.pow_le_pow_right (by decide) hw
  have hm := most_pow w
  have b1 : ∀ i, B 1 i = decide (i = 0) := fun i => by
    have := Nat.testBit_two_pow (n := 0) (m := i)
    unfold B
    rw [show (1 : Nat) = 2 ^ 0 from rfl, this]
    exact decide_eq_decide.mpr ⟨fun e => e.symm, fun e => e.symm⟩
  have b0 : ∀ i, B 0 i = false := fun i => Nat.zero_testBit i
  have bx : ∀ i, B (most w ^^^ 1) i = (decide (i < w) ^^ decide (i = 0)) := fun i => by
    unfold B
    rw [Nat.testBit_xor, show (most w).testBit i = decide (i < w) from b_most w i, show Nat.testBit 1 i = decide (i = 0) from b1 i]
  obtain ⟨s0, hs0⟩ := ne
  cases nv with
  | true =>
    have hz := hn.mp rfl
    refine Tells.mk' (by show most w < 2 ^ w; omega) (by show 0 < 2 ^ w; omega) fun i hi => .inl ⟨by show B (most w) i = true; rw [b_most, decide_eq_true hi], b0 i, fun s hs => by rw [hz s hs]; exact b0 i, s0, hs0⟩
  | false =>
    have n0 : ∃ s, S s ∧ s = 1 := by
      refine Classical.byContradiction fun q => ?_
      have : ∀ s, S s → s = 0 := fun s hs => by
        rcases hS s hs with e | e
        · exact e
        · exact absurd ⟨s, hs, e⟩ q
      exact absurd (hn.mpr this) (by decide)
    obtain ⟨s1, hs1, rfl⟩ := n0
    have hx : most w ^^^ 1 < 2 ^ w := lt_of_b fun i q => by rw [bx, decide_eq_false q, decide_eq_false (show ¬ i = 0 by omega)]; rfl
    have up : ∀ i, i < w → ¬ i = 0 → ∀ s, S s → B s i = false := fun i hi h0 s hs => by
      rcases hS s hs with rfl | rfl
      · exact b0 i
      · rw [b1, decide_eq_false h0]
    cases al with
    | true =>
      have h1 := (ha rfl).mp rfl
      refine Tells.mk' hx (by show 1 < 2 ^ w; omega) fun i hi => ?_
      by_cases h0 : i = 0
      · subst h0
        exact .inr (.inl ⟨by show B (most w ^^^ 1) 0 = false; rw [bx, decide_eq_true hi]; rfl, by show B 1 0 = true; rw [b1]; rfl, fun s hs => by rw [h1 s hs, b1]; rfl, s0, hs0⟩)
      · exact .inl ⟨by show B (most w ^^^ 1) i = true; rw [bx, decide_eq_true hi, decide_eq_false h0]; rfl, by show B 1 i = false; rw [b1, decide_eq_false h0], up i hi h0, s0, hs0⟩
    | false =>
      have n1 : ∃ s, S s ∧ s = 0 := by
        refine Classical.byContradiction fun q => ?_
        have : ∀ s, S s → s = 1 := fun s hs => by
          rcases hS s hs with e | e
          · exact absurd ⟨s, hs, e⟩ q
          · exact e
        exact absurd ((ha rfl).mpr this) (by decide)
      obtain ⟨s2, hs2, rfl⟩ := n1
      refine Tells.mk' hx (by show 0 < 2 ^ w; omega) fun i hi => ?_
      by_cases h0 : i = 0
      · subst h0
        exact .inr (.inr ⟨by show B (most w ^^^ 1) 0 = false; rw [bx, decide_eq_true hi]; rfl, b0 0, ⟨1, hs1, by rw [b1]; rfl⟩, 0, hs2, b0 0⟩)
      · exact .inl ⟨by show B (most w ^^^ 1) i = true; rw [bx, decide_eq_true hi, decide_eq_false h0]; rfl, b0 i, up i hi h0, s0, hs0⟩
theorem tf01 {p : Prop} [Decidable p] : (if p then 1 else 0 : Nat) = 0 ∨ (if p then 1 else 0 : Nat) = 1 := by
  by_cases h : p
  · rw [if_pos h]; exact .inr rfl
  · rw [if_neg h]; exact .inl rfl
theorem tells_same {w : Nat} (hw : 1 ≤ w) {y z : F2} (cy : Fc w y) (cz : Fc w z) : Tells w (Of2 w y z fun a b => if a = b then 1 else 0) (fSame (most w) y z) := by
  have ly := fit_least cy; have lz := fit_least cz; have gy := fit_great cy; have gz := fit_great cz
  refine tells_truth hw (fun s ⟨a, b, _, _, e⟩ => by rw [e]; exact tf01) ⟨_, _, _, ly, lz, rfl⟩ ?_ (fun hn => ?_)
  · rw [Bool.not_eq_true', decide_eq_false_iff_not]
    constructor
    · intro h s ⟨a, b, ha, hb, e⟩
      rw [e]; dsimp only; rw [if_neg]
      rintro rfl
      refine h (b_ext fun i => ?_)
      unfold B
      rw [Nat.testBit_or, Nat.testBit_and, Nat.testBit_and, Nat.zero_testBit]
      have p1 : ¬ (B y.1 i = true ∧ B z.2 i = true) := fun ⟨e1, e2⟩ => no_ft (ha.z i e1) (hb.o i e2)
      have p2 : ¬ (B y.2 i = true ∧ B z.1 i = true) := fun ⟨e1, e2⟩ => no_ft (hb.z i e2) (ha.o i e1)
      unfold B at p1 p2
      revert p1 p2
      cases y.1.testBit i <;> cases y.2.testBit i <;> cases z.1.testBit i <;> cases z.2.testBit i <;> simp
    · intro h e0
      -- without a conflict one word fits both
      have nb : ∀ i, ¬ (B y.1 i = true ∧ B z.2 i = true) ∧ ¬ (B y.2 i = true ∧ B z.1 i = true) := fun i => by
        have e := congrArg (fun n => n.testBit i) e0
        simp only [Nat.testBit_or, Nat.testBit_and, Nat.zero_testBit] at e
        unfold B
        revert e
        cases y.1.testBit i <;> cases y.2.testBit i <;> cases z.1.testBit i <;> cases z.2.testBit i <;> simp
      have bo : ∀ i, B (y.2 ||| z.2) i = (B y.2 i || B z.2 i) := fun i => Nat.testBit_or ..
      have fy : Fit w y (y.2 ||| z.2) := ⟨Nat.or_lt_two_pow cy.ho cz.ho, fun i e => by
        rw [bo]
        have a1 : B y.2 i = false := by cases q : B y.2 i with | false => rfl | true => exact (cy.not i ⟨e, q⟩).elim
        have a2 : B z.2 i = false := by cases q : B z.2 i with | false => rfl | true => exact ((nb i).1 ⟨e, q⟩).elim
        rw [a1, a2]; rfl, fun i e => by rw [bo, e]; rfl⟩
      have fz : Fit w z (y.2 ||| z.2) := ⟨Nat.or_lt_two_pow cy.ho cz.ho, fun i e => by
        rw [bo]
        have a1 : B z.2 i = false := by cases q : B z.2 i with | false => rfl | true => exact (cz.not i ⟨e, q⟩).elim
        have a2 : B y.2 i = false := by cases q : B y.2 i with | false => rfl | true => exact ((nb i).2 ⟨q, e⟩).elim
        rw [a1, a2]; rfl, fun i e => by rw [bo, e, Bool.or_true]⟩
      have := h _ ⟨_, _, fy, fz, rfl⟩
      dsimp only at this
      rw [if_pos rfl] at this
      cases this
  · rw [decide_eq_true_iff]
    constructor
    · intro e0 s ⟨a, b, ha, hb, e⟩
      have eb : ∀ i, i < w → (B y.1 i = true ∧ B z.1 i = true) ∨ (B y.2 i = true ∧ B z.2 i = true) := fun i hi => by
        have e := congrArg (fun n => n.testBit i) e0
        simp only [Nat.testBit_or, Nat.testBit_and] at e
        rw [show (most w).testBit i = decide (i < w) from b_most w i, decide_eq_true hi] at e
        unfold B
        revert e
        cases y.1.testBit i <;> cases y.2.testBit i <;> cases z.1.testBit i <;> cases z.2.testBit i <;> simp
      rw [e]; dsimp only; rw [if_pos]
      refine b_ext fun i => ?_
      by_cases hi : i < w
      · rcases eb i hi with ⟨e1, e2⟩ | ⟨e1, e2⟩
        · rw [ha.z i e1, hb.z i e2]
        · rw [ha.o i e1, hb.o i e2]
      · rw [b_off ha.lt hi, b_off hb.lt hi]
    · intro h
      have eq : ∀ a b, Fit w y a → Fit w z b → a = b := fun a b ha hb => by
        refine Classical.byContradiction fun q => ?_
        have := h _ ⟨a, b, ha, hb, rfl⟩
        dsimp only at this
        rw [if_neg q] at this
        cases this
      have e1 := eq _ _ ly lz
      have e2 := eq _ _ gy lz
      have e3 := eq _ _ ly gz
      refine b_ext fun i => ?_
      unfold B
      rw [Nat.testBit_or, Nat.testBit_and, Nat.testBit_and, show (most w).testBit i = decide (i < w) from b_most w i]
      by_cases hi : i < w
      · have g1 : B (great w y) i = B y.2 i := by rw [e2, ← e1]
        have g2 : B (great w z) i = B z.2 i := by rw [← e3, e1]
        have g3 : B y.2 i = B z.2 i := by rw [e1]
        rw [b_great cy, decide_eq_true hi, Bool.true_and] at g1
        rw [b_great cz, decide_eq_true hi, Bool.true_and] at g2
        unfold B at g1 g2 g3
        rw [decide_eq_true hi]
        revert g1 g2 g3
        cases y.1.testBit i <;> cases y.2.testBit i <;> cases z.1.testBit i <;> cases z.2.testBit i <;> simp
      · rw [decide_eq_false hi, show y.1.testBit i = false from b_off cy.hz hi, show y.2.testBit i = false from b_off cy.ho hi]; rfl
theorem fit_ge {w : Nat} {f : F2} {x : Nat} (h : Fit w f x) : f.2 ≤ x := sub_le h.o
theorem fit_le {w : Nat} {f : F2} {x : Nat} (c : Fc w f) (h : Fit w f x) : x ≤ great w f := sub_le (fit_sub_great c h)
theorem tells_below {w : Nat} (hw : 1 ≤ w) {y z : F2} (cy : Fc w y) (cz : Fc w z) : Tells w (Of2 w y z fun a b => if a < b then 1 else 0) (fBelow (most w) y z) := by
  have ly := fit_least cy; have lz := fit_least cz; have gy := fit_great cy; have gz := fit_great cz
  refine tells_truth hw (fun s ⟨a, b, _, _, e⟩ => by rw [e]; exact tf01) ⟨_, _, _, ly, lz, rfl⟩ ?_ (fun hn => ?_)
  · rw [decide_eq_true_iff]
    constructor
    · intro h s ⟨a, b, ha, hb, e⟩
      have h1 := fit_ge ha
      have h2 := fit_le cz hb
      have h' : great w z ≤ y.2 := h
      rw [e]; dsimp only; rw [if_neg (by omega)]
    · intro h
      have := h _ ⟨_, _, ly, gz, rfl⟩
      dsimp only at this
      by_cases q : y.2 < great w z
      · rw [if_pos q] at this; cases this
      · exact Nat.le_of_not_lt q
  · rw [decide_eq_true_iff]
    constructor
    · intro h s ⟨a, b, ha, hb, e⟩
      have h1 := fit_le cy ha
      have h2 := fit_ge hb
      have h' : great w y < z.2 := h
      rw [e]; dsimp only; rw [if_pos (by omega)]
    · intro h
      have := h _ ⟨_, _, gy, lz, rfl⟩
      dsimp only at this
      by_cases q : great w y < z.2
      · exact q
      · rw [if_neg q] at this; cases this
/-! ### picks -/
theorem tells_or {w : Nat} {S T : Nat → Prop} {f g : F2} (a : Tells w S f) (b : Tells w T g) : Tells w (fun s => S s ∨ T s) (fCommon f g) := by
  refine ⟨and_lt a.hz, and_lt a.ho, fun i hi => ?_, fun i hi => ?_⟩
  · show (f.1 &&& g.1).testBit i = true ↔ _
    rw [Nat.testBit_and, Bool.and_eq_true]
    refine (and_congr (a.bz i hi) (b.bz i hi)).trans ⟨fun ⟨h1, h2⟩ s hs => hs.elim (h1 s) (h2 s), fun h => ⟨fun s hs => h s (.inl hs), fun s hs => h s (.inr hs)⟩⟩
  · show (f.2 &&& g.2).testBit i = true ↔ _
    rw [Nat.testBit_and, Bool.and_eq_true]
    refine (and_congr (a.bo i hi) (b.bo i hi)).trans ⟨fun ⟨h1, h2⟩ s hs => hs.elim (h1 s) (h2 s), fun h => ⟨fun s hs => h s (.inl hs), fun s hs => h s (.inr hs)⟩⟩
def Of3 (w : Nat) (c y z : F2) (s : Nat) : Prop := ∃ a b d, Fit w c a ∧ Fit w y b ∧ Fit w z d ∧ s = if 0 < a then b else d
theorem tells_pick {w : Nat} {c y z : F2} (cc : Fc w c) (cy : Fc w y) (cz : Fc w z) : Tells w (Of3 w c y z) (fPick (most w) c y z) := by
  have lc := fit_least cc; have gc := fit_great cc
  have ly := fit_least cy; have lz := fit_least cz
  unfold fPick
  by_cases h : c.2 = 0
  · rw [if_neg (fun n => n h)]
    by_cases h1 : c.1 = most w
    · rw [if_pos h1]
      refine (tells_copy cz).congr fun s => ?_
      have g0 : great w c = 0 := by unfold great; rw [h1, Nat.xor_self]
      constructor
      · intro hs
        refine ⟨_, _, s, lc, ly, hs, ?_⟩
        rw [h, if_neg (by omega)]
      · rintro ⟨a, b, d, ha, hb, hd, rfl⟩
        have := fit_le cc ha
        rw [g0] at this
        rw [if_neg (by omega)]
        exact hd
    · rw [if_neg h1]
      have g1 : 0 < great w c := by
        refine Nat.pos_of_ne_zero fun e => h1 ?_
        refine b_ext fun i => ?_
        have e2 : B (great w c) i = false := by rw [e]; exact Nat.zero_testBit i
        rw [b_great cc] at e2
        rw [b_most]
        by_cases hi : i < w
        · rw [decide_eq_true hi] at e2 ⊢
          revert e2
          cases B c.1 i <;> simp
        · rw [decide_eq_false hi]; exact b_off cc.hz hi
      refine (tells_or (tells_copy cy) (tells_copy cz)).congr fun s => ?_
      constructor
      · rintro (hs | hs)
        · exact ⟨_, s, _, gc, hs, lz, by rw [if_pos g1]⟩
        · exact ⟨_, _, s, lc, ly, hs, by rw [h, if_neg (by omega)]⟩
      · rintro ⟨a, b, d, ha, hb, hd, rfl⟩
        by_cases q : 0 < a
        · rw [if_pos q]; exact .inl hb
        · rw [if_neg q]; exact .inr hd
  · rw [if_pos h]
    refine (tells_copy cy).congr fun s => ?_
    constructor
    · intro hs
      exact ⟨_, s, _, lc, hs, lz, by rw [if_pos (by omega)]⟩
    · rintro ⟨a, b, d, ha, hb, hd, rfl⟩
      have := fit_ge ha
      rw [if_pos (by omega)]
      exact hb
end K12

set_option Elab.async false
set_option linter.all false
set_option maxRecDepth 100000
set_option maxHeartbeats 4000000
namespace K12
open PySem
/-! ### bit by bit: what a bit may be, as a list -/
def b01 (b : Bool) : Nat := if b = true then 1 else 0
def bs (f : F2) (k : Nat) : List Nat := if B f.1 k = true then [0] else if B f.2 k = true then [1] else [0, 1]
def bitsOf (w : Nat) (f : F2) : List (List Nat) := (List.range w).map (bs f)
/-- rising, each once, of noughts and ones -/
def set01 (l : List Nat) : List Nat := (if 0 ∈ l then [0] else []) ++ (if 1 ∈ l then [1] else [])
theorem b01_zero (b : Bool) : 0 = b01 b ↔ b = false := by cases b <;> decide
theorem b01_one (b : Bool) : 1 = b01 b ↔ b = true := by cases b <;> decide
theorem b01_le (b : Bool) : b01 b ≤ 1 := by cases b <;> decide
theorem bs_set {w : Nat} {S : Nat → Prop} {f : F2} (t : Tells w S f) (ne : ∃ s, S s) {k : Nat} (hk : k < w) {l : List Nat} (h : ∀ n, n ∈ l ↔ ∃ s, S s ∧ n = b01 (B s k)) : set01 l = bs f k := by
  have h0 : 0 ∈ l ↔ ∃ s, S s ∧ B s k = false := (h 0).trans ⟨fun ⟨s, a, e⟩ => ⟨s, a, (b01_zero _).mp e⟩, fun ⟨s, a, e⟩ => ⟨s, a, (b01_zero _).mpr e⟩⟩
  have h1 : 1 ∈ l ↔ ∃ s, S s ∧ B s k = true := (h 1).trans ⟨fun ⟨s, a, e⟩ => ⟨s, a, (b01_one _).mp e⟩, fun ⟨s, a, e⟩ => ⟨s, a, (b01_one _).mpr e⟩⟩
  obtain ⟨s0, hs0⟩ := ne
  unfold set01 bs
  by_cases z : B f.1 k = true
  · have all := (t.bz k hk).mp z
    rw [if_pos z, if_pos (h0.mpr ⟨s0, hs0, all s0 hs0⟩), if_neg (fun q => by
      obtain ⟨s, a, e⟩ := h1.mp q
      exact no_ft (all s a) e)]
    rfl
  · rw [if_neg z]
    have some1 : ∃ s, S s ∧ B s k = true := Classical.byContradiction fun q => z ((t.bz k hk).mpr fun s a => by
      cases e : B s k with
      | false => rfl
      | true => exact (q ⟨s, a, e⟩).elim)
    rw [if_pos (h1.mpr some1)]
    by_cases o : B f.2 k = true
    · have all := (t.bo k hk).mp o
      rw [if_pos o, if_neg (fun q => by
        obtain ⟨s, a, e⟩ := h0.mp q
        exact no_ft e (all s a))]
      rfl
    · rw [if_neg o, if_pos (h0.mpr (Classical.byContradiction fun q => o ((t.bo k hk).mpr fun s a => by
        cases e : B s k with
        | true => rfl
        | false => exact (q ⟨s, a, e⟩).elim)))]
      rfl
/-- what a bit may be is what some fitting word has -/
theorem bs_mem {w : Nat} {f : F2} (c : Fc w f) {k : Nat} (hk : k < w) (n : Nat) : n ∈ bs f k ↔ ∃ s, Fit w f s ∧ n = b01 (B s k) := by
  have p0 : B f.1 k = false → ∃ s, Fit w f s ∧ B s k = true := fun h => poss c hk true (by rw [if_pos rfl]; exact h)
  have p1 : B f.2 k = false → ∃ s, Fit w f s ∧ B s k = false := fun h => poss c hk false (by rw [if_neg (by decide)]; exact h)
  unfold bs
  by_cases z : B f.1 k = true
  · rw [if_pos z, List.mem_singleton]
    constructor
    · intro e
      exact ⟨f.2, fit_least c, by rw [e, show B f.2 k = false from (fit_least c).z k z]; rfl⟩
    · rintro ⟨s, hs, e⟩
      rw [e, hs.z k z]; rfl
  · rw [if_neg z]
    obtain ⟨s1, hs1, e1⟩ := p0 (Bool.eq_false_iff.mpr z)
    by_cases o : B f.2 k = true
    · rw [if_pos o, List.mem_singleton]
      constructor
      · intro e
        exact ⟨s1, hs1, by rw [e, e1]; rfl⟩
      · rintro ⟨s, hs, e⟩
        rw [e, hs.o k o]; rfl
    · rw [if_neg o]
      obtain ⟨s0, hs0, e0⟩ := p1 (Bool.eq_false_iff.mpr o)
      constructor
      · intro e
        simp only [List.mem_cons, List.not_mem_nil, or_false] at e
        rcases e with rfl | rfl
        · exact ⟨s0, hs0, by rw [e0]; rfl⟩
        · exact ⟨s1, hs1, by rw [e1]; rfl⟩
      · rintro ⟨s, hs, e⟩
        rw [e]
        cases B s k <;> simp [b01]
/-- a fitting word with another bit there, the ones below as they were -/
theorem fit_bit {w : Nat} {f : F2} (c : Fc w f) {s a k : Nat} (hk : k < w) (hs : Fit w f s) (ha : Fit w f a) : ∃ t, Fit w f t ∧ B t k = B a k ∧ t % 2 ^ k = s % 2 ^ k := by
  by_cases e : B s k = B a k
  · exact ⟨s, hs, e, rfl⟩
  · have bx : ∀ j, B (s ^^^ 2 ^ k) j = if j = k then !B s j else B s j := fun j => by
      unfold B
      rw [Nat.testBit_xor, Nat.testBit_two_pow]
      by_cases h : j = k
      · rw [if_pos h, decide_eq_true h.symm, Bool.xor_true]
      · rw [if_neg h, decide_eq_false (fun z => h z.symm), Bool.xor_false]
    have nk : (!B s k) = B a k := by
      revert e
      cases B s k <;> cases B a k <;> simp
    refine ⟨s ^^^ 2 ^ k, ⟨Nat.xor_lt_two_pow hs.lt (Nat.pow_lt_pow_right (by decide) hk), fun j z => ?_, fun j o => ?_⟩, by rw [bx, if_pos rfl]; exact nk, ?_⟩
    · rw [bx]
      by_cases h : j = k
      · rw [if_pos h, h, nk]
        rw [h] at z
        exact ha.z k z
      · rw [if_neg h]
        exact hs.z j z
    · rw [bx]
      by_cases h : j = k
      · rw [if_pos h, h, nk]
        rw [h] at o
        exact ha.o k o
      · rw [if_neg h]
        exact hs.o j o
    · refine b_ext fun j => ?_
      show ((s ^^^ 2 ^ k) % 2 ^ k).testBit j = (s % 2 ^ k).testBit j
      rw [Nat.testBit_mod_two_pow, Nat.testBit_mod_two_pow]
      by_cases h : j < k
      · rw [show (s ^^^ 2 ^ k).testBit j = B s j from (bx j).trans (if_neg (by omega))]
      · rw [decide_eq_false h]; rfl
theorem b01_div (x i : Nat) : b01 (B x i) = x / 2 ^ i % 2 := by
  unfold b01 B
  rw [Nat.testBit_eq_decide_div_mod_eq]
  by_cases h : x / 2 ^ i % 2 = 1
  · rw [decide_eq_true h, if_pos rfl, h]
  · rw [decide_eq_false h, if_neg (by decide)]
    have := Nat.mod_lt (x / 2 ^ i) (show 0 < 2 by decide)
    generalize x / 2 ^ i % 2 = u at h this ⊢
    omega
theorem mod_succ (x i : Nat) : x % 2 ^ (i + 1) = x % 2 ^ i + 2 ^ i * b01 (B x i) := by
  rw [b01_div]
  exact Nat.mod_pow_succ
/-- the carry goes on -/
theorem cr_succ (a b c i : Nat) (hc : c ≤ 1) : cr a b c (i + 1) = decide (2 ≤ b01 (B a i) + b01 (B b i) + b01 (cr a b c i)) := by
  have ha := Nat.mod_lt a (Nat.two_pow_pos i)
  have hb := Nat.mod_lt b (Nat.two_pow_pos i)
  have e1 := mod_succ a i
  have e2 := mod_succ b i
  have la := b01_le (B a i)
  have lb := b01_le (B b i)
  have p2 : 2 ^ (i + 1) = 2 * 2 ^ i := Nat.pow_succ'
  have m1 : ∀ u, u ≤ 1 → 2 ^ i * u = if u = 1 then 2 ^ i else 0 := fun u hu => by
    rcases (show u = 0 ∨ u = 1 by omega) with rfl | rfl
    · rfl
    · rw [if_pos rfl, Nat.mul_one]
  rw [m1 _ la] at e1
  rw [m1 _ lb] at e2
  unfold cr
  rw [e1, e2, p2]
  generalize b01 (B a i) = u at la e1 ⊢
  generalize b01 (B b i) = v at lb e2 ⊢
  generalize a % 2 ^ i = A at ha e1 ⊢
  generalize b % 2 ^ i = A' at hb e2 ⊢
  generalize 2 ^ i = p at ha hb e1 e2 ⊢
  refine decide_eq_decide.mpr ?_
  rcases (show u = 0 ∨ u = 1 by omega) with rfl | rfl <;> rcases (show v = 0 ∨ v = 1 by omega) with rfl | rfl <;> by_cases q : p ≤ A + A' + c <;> simp [b01, q] <;> omega
theorem add_b01 (a b c i : Nat) (hc : c ≤ 1) : b01 (B (a + b + c) i) = (b01 (B a i) + b01 (B b i) + b01 (cr a b c i)) % 2 := by
  rw [b_add a b c i hc]
  cases B a i <;> cases B b i <;> cases cr a b c i <;> rfl
end K12

set_option Elab.async false
set_option linter.all false
set_option maxRecDepth 100000
set_option maxHeartbeats 4000000
namespace K12
open PySem
/-! ### a sum gone through bit by bit, with all carries that may be -/
theorem set01_mem {l : List Nat} (h : ∀ n ∈ l, n ≤ 1) (n : Nat) : n ∈ set01 l ↔ n ∈ l := by
  unfold set01
  rw [List.mem_append]
  constructor
  · rintro (q | q)
    · by_cases z : 0 ∈ l
      · rw [if_pos z] at q
        rw [List.mem_singleton.mp q]; exact z
      · rw [if_neg z] at q; cases q
    · by_cases z : 1 ∈ l
      · rw [if_pos z] at q
        rw [List.mem_singleton.mp q]; exact z
      · rw [if_neg z] at q; cases q
  · intro q
    have := h n q
    rcases (show n = 0 ∨ n = 1 by omega) with rfl | rfl
    · left; rw [if_pos q]; exact List.mem_singleton.mpr rfl
    · right; rw [if_pos q]; exact List.mem_singleton.mpr rfl
def all3F (g : Nat → Nat → Nat → Nat) (ls rs cs : List Nat) : List Nat := ls.flatMap fun l => rs.flatMap fun r => cs.map fun c => g l r c
theorem all3F_mem {g : Nat → Nat → Nat → Nat} {ls rs cs : List Nat} {n : Nat} : n ∈ all3F g ls rs cs ↔ ∃ l ∈ ls, ∃ r ∈ rs, ∃ c ∈ cs, n = g l r c := by
  unfold all3F
  constructor
  · intro h
    obtain ⟨l, hl, h⟩ := List.mem_flatMap.mp h
    obtain ⟨r, hr, h⟩ := List.mem_flatMap.mp h
    obtain ⟨c, hc, rfl⟩ := List.mem_map.mp h
    exact ⟨l, hl, r, hr, c, hc, rfl⟩
  · rintro ⟨l, hl, r, hr, c, hc, rfl⟩
    exact List.mem_flatMap.mpr ⟨l, hl, List.mem_flatMap.mpr ⟨r, hr, List.mem_map.mpr ⟨c, hc, rfl⟩⟩⟩
def goOn (l r c : Nat) : Nat := if 2 ≤ l + r + c then 1 else 0
def stay (l r c : Nat) : Nat := (l + r + c) % 2
/-- the carries into bit k -/
def carr (y z : F2) (c0 : Nat) : Nat → List Nat
  | 0 => [c0]
  | k + 1 => set01 (all3F goOn (bs y k) (bs z k) (carr y z c0 k))
theorem goOn_le (l r c : Nat) : goOn l r c ≤ 1 := by unfold goOn; split <;> omega
theorem cr_zero (a b c : Nat) (hc : c ≤ 1) : b01 (cr a b c 0) = c := by
  unfold cr b01
  rw [Nat.pow_zero, Nat.mod_one, Nat.mod_one]
  rcases (show c = 0 ∨ c = 1 by omega) with rfl | rfl <;> rfl
theorem carr_mem {w : Nat} {y z : F2} (cy : Fc w y) (cz : Fc w z) {c0 : Nat} (h0 : c0 ≤ 1) : ∀ (k : Nat), k ≤ w → ∀ n, n ∈ carr y z c0 k ↔ ∃ a b, Fit w y a ∧ Fit w z b ∧ n = b01 (cr a b c0 k)
  | 0, _, n => by
    show n ∈ [c0] ↔ _
    rw [List.mem_singleton]
    constructor
    · rintro rfl
      exact ⟨_, _, fit_least cy, fit_least cz, (cr_zero _ _ _ h0).symm⟩
    · rintro ⟨a, b, _, _, e⟩
      rw [e, cr_zero _ _ _ h0]
  | k + 1, hk, n => by
    have ih := carr_mem cy cz h0 k (by omega)
    have key : n ∈ all3F goOn (bs y k) (bs z k) (carr y z c0 k) ↔ ∃ a b, Fit w y a ∧ Fit w z b ∧ n = b01 (cr a b c0 (k + 1)) := by
      rw [all3F_mem]
      constructor
      · rintro ⟨l, hl, r, hr, c, hc, rfl⟩
        obtain ⟨a1, f1, rfl⟩ := (bs_mem cy (by omega) l).mp hl
        obtain ⟨b1, f2, rfl⟩ := (bs_mem cz (by omega) r).mp hr
        obtain ⟨a, b, fa, fb, rfl⟩ := (ih c).mp hc
        obtain ⟨a', fa', ea, ma⟩ := fit_bit (k := k) cy (by omega) fa f1
        obtain ⟨b', fb', eb, mb⟩ := fit_bit (k := k) cz (by omega) fb f2
        refine ⟨a', b', fa', fb', ?_⟩
        rw [cr_succ _ _ _ _ h0, ea, eb, cr_mod (c := c0) ma mb]
        unfold goOn
        by_cases q : 2 ≤ b01 (B a1 k) + b01 (B b1 k) + b01 (cr a b c0 k)
        · rw [if_pos q, decide_eq_true q]; rfl
        · rw [if_neg q, decide_eq_false q]; rfl
      · rintro ⟨a, b, fa, fb, rfl⟩
        refine ⟨_, (bs_mem cy (by omega) _).mpr ⟨a, fa, rfl⟩, _, (bs_mem cz (by omega) _).mpr ⟨b, fb, rfl⟩, _, (ih _).mpr ⟨a, b, fa, fb, rfl⟩, ?_⟩
        rw [cr_succ _ _ _ _ h0]
        unfold goOn
        by_cases q : 2 ≤ b01 (B a k) + b01 (B b k) + b01 (cr a b c0 k)
        · rw [if_pos q, decide_eq_true q]; rfl
        · rw [if_neg q, decide_eq_false q]; rfl
    show n ∈ set01 _ ↔ _
    rw [set01_mem (fun m hm => by
      obtain ⟨l, _, r, _, c, _, rfl⟩ := all3F_mem.mp hm
      exact goOn_le l r c)]
    exact key
/-- what the sum's bit k may be -/
theorem sum_bits {w : Nat} {y z : F2} (cy : Fc w y) (cz : Fc w z) {c0 : Nat} (h0 : c0 ≤ 1) {k : Nat} (hk : k < w) : set01 (all3F stay (bs y k) (bs z k) (carr y z c0 k)) = bs (fCarried (most w) y z c0) k := by
  have bit : ∀ a b, b01 (B ((a + b + c0) % 2 ^ w) k) = stay (b01 (B a k)) (b01 (B b k)) (b01 (cr a b c0 k)) := fun a b => by
    have e : B ((a + b + c0) % 2 ^ w) k = B (a + b + c0) k := by
      show ((a + b + c0) % 2 ^ w).testBit k = _
      rw [Nat.testBit_mod_two_pow, decide_eq_true hk, Bool.true_and]
    rw [e]
    exact add_b01 a b c0 k h0
  refine bs_set (tells_carried cy cz h0) ⟨_, _, _, fit_least cy, fit_least cz, rfl⟩ hk fun n => ?_
  rw [all3F_mem]
  constructor
  · rintro ⟨l, hl, r, hr, c, hc, rfl⟩
    obtain ⟨a1, f1, rfl⟩ := (bs_mem cy hk l).mp hl
    obtain ⟨b1, f2, rfl⟩ := (bs_mem cz hk r).mp hr
    obtain ⟨a, b, fa, fb, rfl⟩ := (carr_mem cy cz h0 k (by omega) c).mp hc
    obtain ⟨a', fa', ea, ma⟩ := fit_bit cy hk fa f1
    obtain ⟨b', fb', eb, mb⟩ := fit_bit cz hk fb f2
    refine ⟨_, ⟨a', b', fa', fb', rfl⟩, ?_⟩
    rw [bit, ea, eb, cr_mod (c := c0) ma mb]
  · rintro ⟨s, ⟨a, b, fa, fb, rfl⟩, rfl⟩
    exact ⟨_, (bs_mem cy hk _).mpr ⟨a, fa, rfl⟩, _, (bs_mem cz hk _).mpr ⟨b, fb, rfl⟩, _, (carr_mem cy cz h0 k (by omega) _).mpr ⟨a, b, fa, fb, rfl⟩, bit a b⟩
/-- bit by bit: and, or, unlike -/
theorem two_bits {w : Nat} {y z : F2} (cy : Fc w y) (cz : Fc w z) {g : Nat → Nat → Nat} {h : Nat → Nat → Nat} {r : F2} (t : Tells w (Of2 w y z g) r) {k : Nat} (hk : k < w) (bit : ∀ a b, b01 (B (g a b) k) = h (b01 (B a k)) (b01 (B b k))) : set01 ((bs z k).flatMap fun b => (bs y k).map fun a => h a b) = bs r k := by
  refine bs_set t ⟨_, _, _, fit_least cy, fit_least cz, rfl⟩ hk fun n => ?_
  constructor
  · intro q
    obtain ⟨b, hb, q⟩ := List.mem_flatMap.mp q
    obtain ⟨a, ha, rfl⟩ := List.mem_map.mp q
    obtain ⟨s, fs, rfl⟩ := (bs_mem cy hk a).mp ha
    obtain ⟨u, fu, rfl⟩ := (bs_mem cz hk b).mp hb
    exact ⟨_, ⟨s, u, fs, fu, rfl⟩, (bit s u).symm⟩
  · rintro ⟨s, ⟨a, b, fa, fb, rfl⟩, rfl⟩
    exact List.mem_flatMap.mpr ⟨_, (bs_mem cz hk _).mpr ⟨b, fb, rfl⟩, List.mem_map.mpr ⟨_, (bs_mem cy hk _).mpr ⟨a, fa, rfl⟩, (bit a b).symm⟩⟩
end K12

set_option Elab.async false
set_option linter.all false
set_option maxRecDepth 100000
set_option maxHeartbeats 4000000
namespace K12
open PySem
/-! ### bit by bit: numbers, moved bits, questions, picks -/
theorem set01_bs (f : F2) (k : Nat) : set01 (bs f k) = bs f k := by
  unfold bs
  by_cases z : B f.1 k = true
  · rw [if_pos z]; rfl
  · rw [if_neg z]
    by_cases o : B f.2 k = true
    · rw [if_pos o]; rfl
    · rw [if_neg o]; rfl
theorem set01_one {b : Bool} : set01 [b01 b] = [b01 b] := by cases b <;> rfl
theorem num_bits {w n : Nat} (h : n < 2 ^ w) {k : Nat} (hk : k < w) : bs (most w ^^^ n, n) k = [b01 (B n k)] := by
  rw [← set01_one]
  refine (bs_set (tells_num h) ⟨n, rfl⟩ hk fun m => ?_).symm
  rw [List.mem_singleton]
  exact ⟨fun e => ⟨n, rfl, e⟩, fun ⟨s, e1, e2⟩ => by rw [e2, e1]⟩
theorem up_bits {w k : Nat} {y : F2} (cy : Fc w y) {i : Nat} (hi : i < w) : bs (fUp (most w) y k) i = if i < k then [0] else bs y (i - k) := by
  have bit : ∀ a, B ((a * 2 ^ k) % 2 ^ w) i = if i < k then false else B a (i - k) := fun a => by
    show ((a * 2 ^ k) % 2 ^ w).testBit i = _
    rw [Nat.testBit_mod_two_pow, decide_eq_true hi, Bool.true_and, Nat.mul_comm, Nat.testBit_two_pow_mul]
    by_cases h : i < k
    · rw [if_pos h, decide_eq_false (by omega)]; rfl
    · rw [if_neg h, decide_eq_true (by omega), Bool.true_and]
  have e : set01 (if i < k then [0] else bs y (i - k)) = bs (fUp (most w) y k) i := by
    refine bs_set (tells_up cy) ⟨_, _, fit_least cy, rfl⟩ hi fun n => ?_
    by_cases h : i < k
    · rw [if_pos h, List.mem_singleton]
      constructor
      · intro q
        exact ⟨_, ⟨_, fit_least cy, rfl⟩, by rw [bit, if_pos h, q]; rfl⟩
      · rintro ⟨s, ⟨a, fa, rfl⟩, q⟩
        rw [q, bit, if_pos h]; rfl
    · rw [if_neg h, bs_mem cy (by omega)]
      constructor
      · rintro ⟨a, fa, q⟩
        exact ⟨_, ⟨a, fa, rfl⟩, by rw [bit, if_neg h]; exact q⟩
      · rintro ⟨s, ⟨a, fa, rfl⟩, q⟩
        exact ⟨a, fa, by rw [q, bit, if_neg h]⟩
  rw [← e]
  by_cases h : i < k
  · rw [if_pos h]; rfl
  · rw [if_neg h, set01_bs]
theorem down_bits {w k : Nat} {y : F2} (cy : Fc w y) {i : Nat} (hi : i < w) : bs (fDown (most w) y k) i = if i + k < w then bs y (i + k) else [0] := by
  have bit : ∀ a, B (a >>> k) i = B a (i + k) := fun a => by
    show (a >>> k).testBit i = _
    rw [Nat.testBit_shiftRight, Nat.add_comm]
  have e : set01 (if i + k < w then bs y (i + k) else [0]) = bs (fDown (most w) y k) i := by
    refine bs_set (tells_down cy) ⟨_, _, fit_least cy, rfl⟩ hi fun n => ?_
    by_cases h : i + k < w
    · rw [if_pos h, bs_mem cy h]
      constructor
      · rintro ⟨a, fa, q⟩
        exact ⟨_, ⟨a, fa, rfl⟩, by rw [bit]; exact q⟩
      · rintro ⟨s, ⟨a, fa, rfl⟩, q⟩
        exact ⟨a, fa, by rw [q, bit]⟩
    · rw [if_neg h, List.mem_singleton]
      constructor
      · intro q
        exact ⟨_, ⟨_, fit_least cy, rfl⟩, by rw [bit, b_off cy.ho h, q]; rfl⟩
      · rintro ⟨s, ⟨a, fa, rfl⟩, q⟩
        rw [q, bit, b_off fa.lt h]; rfl
  rw [← e]
  by_cases h : i + k < w
  · rw [if_pos h, set01_bs]
  · rw [if_neg h]; rfl
/-! which is greater, from the lowest bit on: 0 the first is below, 1 both alike, 2 above -/
def ordN (a b : Nat) : Nat := if a = b then 1 else if a < b then 0 else 2
theorem ord_succ (a b k : Nat) : ordN (a % 2 ^ (k + 1)) (b % 2 ^ (k + 1)) = if b01 (B a k) = b01 (B b k) then ordN (a % 2 ^ k) (b % 2 ^ k) else if b01 (B a k) < b01 (B b k) then 0 else 2 := by
  have ha := Nat.mod_lt a (Nat.two_pow_pos k)
  have hb := Nat.mod_lt b (Nat.two_pow_pos k)
  rw [mod_succ a k, mod_succ b k]
  have la := b01_le (B a k)
  have lb := b01_le (B b k)
  generalize b01 (B a k) = u at la ⊢
  generalize b01 (B b k) = v at lb ⊢
  generalize a % 2 ^ k = A at ha ⊢
  generalize b % 2 ^ k = A' at hb ⊢
  generalize 2 ^ k = p at ha hb ⊢
  unfold ordN
  rcases (show u = 0 ∨ u = 1 by omega) with rfl | rfl <;> rcases (show v = 0 ∨ v = 1 by omega) with rfl | rfl
  · simp
  · simp
    rw [if_neg (by omega), if_pos (by omega)]
  · simp
    rw [if_neg (by omega), if_neg (by omega)]
  · simp
end K12

set_option Elab.async false
set_option linter.all false
set_option maxRecDepth 100000
set_option maxHeartbeats 4000000
namespace K12
open PySem
/-! ### bit by bit: questions -/
def set012 (l : List Nat) : List Nat := (if 0 ∈ l then [0] else []) ++ ((if 1 ∈ l then [1] else []) ++ (if 2 ∈ l then [2] else []))
theorem if_mem {n m : Nat} {l : List Nat} : n ∈ (if m ∈ l then [m] else []) ↔ n = m ∧ m ∈ l := by
  by_cases h : m ∈ l
  · rw [if_pos h, List.mem_singleton]
    exact ⟨fun e => ⟨e, h⟩, fun e => e.1⟩
  · rw [if_neg h]
    constructor
    · intro e; cases e
    · intro e; exact absurd e.2 h
theorem set012_mem {l : List Nat} (h : ∀ n ∈ l, n ≤ 2) (n : Nat) : n ∈ set012 l ↔ n ∈ l := by
  unfold set012
  rw [List.mem_append, List.mem_append, if_mem, if_mem, if_mem]
  constructor
  · rintro (⟨rfl, q⟩ | ⟨rfl, q⟩ | ⟨rfl, q⟩) <;> exact q
  · intro q
    have := h n q
    rcases (show n = 0 ∨ n = 1 ∨ n = 2 by omega) with rfl | rfl | rfl
    · exact .inl ⟨rfl, q⟩
    · exact .inr (.inl ⟨rfl, q⟩)
    · exact .inr (.inr ⟨rfl, q⟩)
def moreO (ls rs os : List Nat) : List Nat := ls.flatMap fun l => rs.flatMap fun r => if l = r then os else [if l < r then 0 else 2]
def ords (y z : F2) : Nat → List Nat
  | 0 => [1]
  | k + 1 => set012 (moreO (bs y k) (bs z k) (ords y z k))
theorem moreO_mem {ls rs os : List Nat} {n : Nat} : n ∈ moreO ls rs os ↔ ∃ l ∈ ls, ∃ r ∈ rs, (l = r ∧ n ∈ os) ∨ (l ≠ r ∧ n = if l < r then 0 else 2) := by
  unfold moreO
  constructor
  · intro h
    obtain ⟨l, hl, h⟩ := List.mem_flatMap.mp h
    obtain ⟨r, hr, h⟩ := List.mem_flatMap.mp h
    refine ⟨l, hl, r, hr, ?_⟩
    by_cases q : l = r
    · rw [if_pos q] at h; exact .inl ⟨q, h⟩
    · rw [if_neg q] at h; exact .inr ⟨q, List.mem_singleton.mp h⟩
  · rintro ⟨l, hl, r, hr, h⟩
    refine List.mem_flatMap.mpr ⟨l, hl, List.mem_flatMap.mpr ⟨r, hr, ?_⟩⟩
    rcases h with ⟨q, h⟩ | ⟨q, h⟩
    · rw [if_pos q]; exact h
    · rw [if_neg q]; exact List.mem_singleton.mpr h
theorem ordN_le (a b : Nat) : ordN a b ≤ 2 := by unfold ordN; split; omega; split <;> omega
theorem ords_mem {w : Nat} {y z : F2} (cy : Fc w y) (cz : Fc w z) : ∀ (k : Nat), k ≤ w → ∀ n, n ∈ ords y z k ↔ ∃ a b, Fit w y a ∧ Fit w z b ∧ n = ordN (a % 2 ^ k) (b % 2 ^ k)
  | 0, _, n => by
    have e : ∀ a b, ordN (a % 2 ^ 0) (b % 2 ^ 0) = 1 := fun a b => by
      rw [Nat.pow_zero, Nat.mod_one, Nat.mod_one]; rfl
    show n ∈ [1] ↔ _
    rw [List.mem_singleton]
    constructor
    · rintro rfl
      exact ⟨_, _, fit_least cy, fit_least cz, (e _ _).symm⟩
    · rintro ⟨a, b, _, _, q⟩
      rw [q, e]
  | k + 1, hk, n => by
    have ih := ords_mem cy cz k (by omega)
    have key : n ∈ moreO (bs y k) (bs z k) (ords y z k) ↔ ∃ a b, Fit w y a ∧ Fit w z b ∧ n = ordN (a % 2 ^ (k + 1)) (b % 2 ^ (k + 1)) := by
      rw [moreO_mem]
      constructor
      · rintro ⟨l, hl, r, hr, h⟩
        obtain ⟨a1, f1, rfl⟩ := (bs_mem cy (by omega) l).mp hl
        obtain ⟨b1, f2, rfl⟩ := (bs_mem cz (by omega) r).mp hr
        rcases h with ⟨q, h⟩ | ⟨q, h⟩
        · obtain ⟨a, b, fa, fb, rfl⟩ := (ih n).mp h
          obtain ⟨a', fa', ea, ma⟩ := fit_bit (k := k) cy (by omega) fa f1
          obtain ⟨b', fb', eb, mb⟩ := fit_bit (k := k) cz (by omega) fb f2
          exact ⟨a', b', fa', fb', by rw [ord_succ, ea, eb, if_pos q, ma, mb]⟩
        · exact ⟨a1, b1, f1, f2, by rw [ord_succ, if_neg q]; exact h⟩
      · rintro ⟨a, b, fa, fb, e⟩
        refine ⟨_, (bs_mem cy (by omega) _).mpr ⟨a, fa, rfl⟩, _, (bs_mem cz (by omega) _).mpr ⟨b, fb, rfl⟩, ?_⟩
        rw [ord_succ] at e
        by_cases q : b01 (B a k) = b01 (B b k)
        · rw [if_pos q] at e
          exact .inl ⟨q, (ih n).mpr ⟨a, b, fa, fb, e⟩⟩
        · rw [if_neg q] at e
          exact .inr ⟨q, e⟩
    show n ∈ set012 _ ↔ _
    rw [set012_mem (fun m hm => by
      obtain ⟨l, _, r, _, h⟩ := moreO_mem.mp hm
      rcases h with ⟨_, h⟩ | ⟨_, h⟩
      · obtain ⟨a, b, _, _, e⟩ := (ih m).mp h
        rw [e]; exact ordN_le _ _
      · rw [h]; split <;> omega)]
    exact key
theorem truth_bit (p : Prop) [Decidable p] (k : Nat) : b01 (B (if p then 1 else 0) k) = if k = 0 then (if p then 1 else 0) else 0 := by
  by_cases h : p
  · rw [if_pos h]
    by_cases q : k = 0
    · rw [q]; rfl
    · rw [if_neg q, show B 1 k = false from b_off (w := 1) (by decide) (by omega)]; rfl
  · rw [if_neg h, show B 0 k = false from Nat.zero_testBit k]
    split <;> rfl
theorem ask_bits {w : Nat} {y z : F2} (cy : Fc w y) (cz : Fc w z) {p : Nat → Nat → Prop} [∀ a b, Decidable (p a b)] {r : F2} (t : Tells w (Of2 w y z fun a b => if p a b then 1 else 0) r) {wish : Nat} (hp : ∀ a b, p a b ↔ ordN a b = wish) {k : Nat} (hk : k < w) :
    bs r k = if k = 0 then set01 ((ords y z w).map fun o => if o = wish then 1 else 0) else [0] := by
  have om : ∀ n, n ∈ ords y z w ↔ ∃ a b, Fit w y a ∧ Fit w z b ∧ n = ordN a b := fun n => by
    rw [ords_mem cy cz w (Nat.le_refl w)]
    constructor
    · rintro ⟨a, b, fa, fb, e⟩
      exact ⟨a, b, fa, fb, by rw [e, Nat.mod_eq_of_lt fa.lt, Nat.mod_eq_of_lt fb.lt]⟩
    · rintro ⟨a, b, fa, fb, e⟩
      exact ⟨a, b, fa, fb, by rw [e, Nat.mod_eq_of_lt fa.lt, Nat.mod_eq_of_lt fb.lt]⟩
  have pw : ∀ a b, (if p a b then 1 else 0 : Nat) = if ordN a b = wish then 1 else 0 := fun a b => by
    by_cases h : p a b
    · rw [if_pos h, if_pos ((hp a b).mp h)]
    · rw [if_neg h, if_neg (fun z => h ((hp a b).mpr z))]
  by_cases h : k = 0
  · rw [if_pos h]
    refine (bs_set t ⟨_, _, _, fit_least cy, fit_least cz, rfl⟩ hk fun n => ?_).symm
    constructor
    · intro q
      obtain ⟨o, ho, rfl⟩ := List.mem_map.mp q
      obtain ⟨a, b, fa, fb, rfl⟩ := (om o).mp ho
      exact ⟨_, ⟨a, b, fa, fb, rfl⟩, by rw [truth_bit, if_pos h, pw]⟩
    · rintro ⟨s, ⟨a, b, fa, fb, rfl⟩, rfl⟩
      exact List.mem_map.mpr ⟨_, (om _).mpr ⟨a, b, fa, fb, rfl⟩, by rw [truth_bit, if_pos h, pw]⟩
  · rw [if_neg h]
    have e : set01 [0] = bs r k := bs_set t ⟨_, _, _, fit_least cy, fit_least cz, rfl⟩ hk fun n => by
      rw [List.mem_singleton]
      constructor
      · intro q
        exact ⟨_, ⟨_, _, fit_least cy, fit_least cz, rfl⟩, by rw [truth_bit, if_neg h, q]⟩
      · rintro ⟨s, ⟨a, b, _, _, rfl⟩, q⟩
        rw [q, truth_bit, if_neg h]
    exact e.symm
theorem same_bits {w : Nat} (hw : 1 ≤ w) {y z : F2} (cy : Fc w y) (cz : Fc w z) {k : Nat} (hk : k < w) : bs (fSame (most w) y z) k = if k = 0 then set01 ((ords y z w).map fun o => if o = 1 then 1 else 0) else [0] :=
  ask_bits cy cz (p := fun a b => a = b) (tells_same hw cy cz) (fun a b => by
    unfold ordN
    by_cases h : a = b
    · rw [if_pos h]; exact ⟨fun _ => rfl, fun _ => h⟩
    · rw [if_neg h]
      exact ⟨fun q => absurd q h, fun q => by split at q <;> omega⟩) hk
theorem below_bits {w : Nat} (hw : 1 ≤ w) {y z : F2} (cy : Fc w y) (cz : Fc w z) {k : Nat} (hk : k < w) : bs (fBelow (most w) y z) k = if k = 0 then set01 ((ords y z w).map fun o => if o = 0 then 1 else 0) else [0] :=
  ask_bits cy cz (p := fun a b => a < b) (tells_below hw cy cz) (fun a b => by
    unfold ordN
    by_cases h : a = b
    · rw [if_pos h]; exact ⟨fun q => by omega, fun q => by cases q⟩
    · rw [if_neg h]
      by_cases q : a < b
      · rw [if_pos q]; exact ⟨fun _ => rfl, fun _ => q⟩
      · rw [if_neg q]; exact ⟨fun z => absurd z q, fun z => by cases z⟩) hk
end K12

set_option Elab.async false
set_option linter.all false
set_option maxRecDepth 100000
set_option maxHeartbeats 4000000
namespace K12
open PySem
/-! ### bit by bit: differences, picks -/
theorem bs_le {f : F2} {k n : Nat} (h : n ∈ bs f k) : n ≤ 1 := by
  unfold bs at h
  split at h
  · rw [List.mem_singleton.mp h]; omega
  · split at h
    · rw [List.mem_singleton.mp h]; omega
    · simp only [List.mem_cons, List.not_mem_nil, or_false] at h
      omega
theorem bs_swap {w : Nat} {f : F2} (c : Fc w f) {k n : Nat} (hk : k < w) : n ∈ bs f k ↔ n ≤ 1 ∧ 1 - n ∈ bs (f.2, f.1) k := by
  unfold bs
  rcases c.three hk with ⟨h1, h2⟩ | ⟨h1, h2⟩ | ⟨h1, h2, _⟩
  · rw [if_pos h1, if_neg (show ¬ B (f.2, f.1).1 k = true by show ¬ B f.2 k = true; rw [h2]; decide), if_pos (show B (f.2, f.1).2 k = true from h1), List.mem_singleton, List.mem_singleton]
    omega
  · rw [if_neg (by rw [h1]; decide), if_pos h2, if_pos (show B (f.2, f.1).1 k = true from h2), List.mem_singleton, List.mem_singleton]
    omega
  · rw [if_neg (by rw [h1]; decide), if_neg (by rw [h2]; decide), if_neg (show ¬ B (f.2, f.1).1 k = true by show ¬ B f.2 k = true; rw [h2]; decide), if_neg (show ¬ B (f.2, f.1).2 k = true by show ¬ B f.1 k = true; rw [h1]; decide)]
    simp only [List.mem_cons, List.not_mem_nil, or_false]
    omega
def under (l r c : Nat) : Nat := if l < r + c then 1 else 0
/-- what must be borrowed at bit k -/
def borr (y z : F2) : Nat → List Nat
  | 0 => [0]
  | k + 1 => set01 (all3F under (bs y k) (bs z k) (borr y z k))
theorem under_le (l r c : Nat) : under l r c ≤ 1 := by unfold under; split <;> omega
theorem carr_le {y z : F2} {c0 : Nat} (h : c0 ≤ 1) : ∀ (k n : Nat), n ∈ carr y z c0 k → n ≤ 1
  | 0, n, q => by rw [List.mem_singleton.mp (show n ∈ [c0] from q)]; exact h
  | k + 1, n, q => by
    have q : n ∈ set01 (all3F goOn (bs y k) (bs z k) (carr y z c0 k)) := q
    have all : ∀ m ∈ all3F goOn (bs y k) (bs z k) (carr y z c0 k), m ≤ 1 := fun m hm => by
      obtain ⟨l, _, r, _, c, _, rfl⟩ := all3F_mem.mp hm
      exact goOn_le l r c
    exact all n ((set01_mem all n).mp q)
theorem borr_mem {w : Nat} {y z : F2} (cz : Fc w z) : ∀ (k : Nat), k ≤ w → ∀ n, n ∈ borr y z k ↔ n ≤ 1 ∧ 1 - n ∈ carr y (z.2, z.1) 1 k
  | 0, _, n => by
    show n ∈ [0] ↔ n ≤ 1 ∧ 1 - n ∈ [1]
    rw [List.mem_singleton, List.mem_singleton]
    omega
  | k + 1, hk, n => by
    have ih := borr_mem (y := y) cz k (by omega)
    have a1 : ∀ m ∈ all3F under (bs y k) (bs z k) (borr y z k), m ≤ 1 := fun m hm => by
      obtain ⟨l, _, r, _, c, _, rfl⟩ := all3F_mem.mp hm
      exact under_le l r c
    have a2 : ∀ m ∈ all3F goOn (bs y k) (bs (z.2, z.1) k) (carr y (z.2, z.1) 1 k), m ≤ 1 := fun m hm => by
      obtain ⟨l, _, r, _, c, _, rfl⟩ := all3F_mem.mp hm
      exact goOn_le l r c
    show n ∈ set01 _ ↔ n ≤ 1 ∧ 1 - n ∈ set01 _
    rw [set01_mem a1, set01_mem a2, all3F_mem, all3F_mem]
    constructor
    · rintro ⟨l, hl, r, hr, c, hc, rfl⟩
      obtain ⟨hr1, hr2⟩ := (bs_swap cz (by omega)).mp hr
      obtain ⟨hc1, hc2⟩ := (ih c).mp hc
      refine ⟨under_le _ _ _, l, hl, 1 - r, hr2, 1 - c, hc2, ?_⟩
      have := bs_le hl
      unfold under goOn
      by_cases q : l < r + c
      · rw [if_pos q, if_neg (by omega)]
      · rw [if_neg q, if_pos (by omega)]
    · rintro ⟨hn, l, hl, r, hr, c, hc, e⟩
      have lr := bs_le hr
      have lc := carr_le (Nat.le_refl 1) k c hc
      have := bs_le hl
      refine ⟨l, hl, 1 - r, (bs_swap cz (by omega)).mpr ⟨by omega, by rw [show 1 - (1 - r) = r by omega]; exact hr⟩, 1 - c, (ih _).mpr ⟨by omega, by rw [show 1 - (1 - c) = c by omega]; exact hc⟩, ?_⟩
      unfold goOn at e
      unfold under
      by_cases q : 2 ≤ l + r + c
      · rw [if_pos q] at e
        rw [if_neg (by omega)]; omega
      · rw [if_neg q] at e
        rw [if_pos (by omega)]; omega
theorem diff_bits {w : Nat} {y z : F2} (cy : Fc w y) (cz : Fc w z) {k : Nat} (hk : k < w) : set01 (all3F stay (bs y k) (bs z k) (borr y z k)) = bs (fDiff (most w) y z) k := by
  have e : bs (fDiff (most w) y z) k = set01 (all3F stay (bs y k) (bs (z.2, z.1) k) (carr y (z.2, z.1) 1 k)) := (sum_bits cy cz.swap (Nat.le_refl 1) hk).symm
  rw [e]
  have same : ∀ n, n ∈ all3F stay (bs y k) (bs z k) (borr y z k) ↔ n ∈ all3F stay (bs y k) (bs (z.2, z.1) k) (carr y (z.2, z.1) 1 k) := fun n => by
    rw [all3F_mem, all3F_mem]
    constructor
    · rintro ⟨l, hl, r, hr, c, hc, rfl⟩
      obtain ⟨hr1, hr2⟩ := (bs_swap cz hk).mp hr
      obtain ⟨hc1, hc2⟩ := (borr_mem cz k (by omega) c).mp hc
      exact ⟨l, hl, 1 - r, hr2, 1 - c, hc2, by unfold stay; omega⟩
    · rintro ⟨l, hl, r, hr, c, hc, rfl⟩
      have lr := bs_le hr
      have lc := carr_le (Nat.le_refl 1) k c hc
      exact ⟨l, hl, 1 - r, (bs_swap cz hk).mpr ⟨by omega, by rw [show 1 - (1 - r) = r by omega]; exact hr⟩, 1 - c, (borr_mem cz k (by omega) _).mpr ⟨by omega, by rw [show 1 - (1 - c) = c by omega]; exact hc⟩, by unfold stay; omega⟩
  unfold set01
  simp only [same]
/-- some fitting word isn't nought; nought fits -/
theorem some_one {w : Nat} {c : F2} (cc : Fc w c) : (∃ i, i < w ∧ 1 ∈ bs c i) ↔ ∃ a, Fit w c a ∧ 0 < a := by
  constructor
  · rintro ⟨i, hi, h⟩
    obtain ⟨s, fs, e⟩ := (bs_mem cc hi 1).mp h
    refine ⟨s, fs, Nat.pos_of_ne_zero fun z => ?_⟩
    rw [z, show B 0 i = false from Nat.zero_testBit i] at e
    cases e
  · rintro ⟨a, fa, ha⟩
    have : ∃ i, B a i = true := Classical.byContradiction fun q => by
      have : a = 0 := b_ext fun i => by
        rw [show B 0 i = false from Nat.zero_testBit i]
        exact Bool.eq_false_iff.mpr fun z => q ⟨i, z⟩
      omega
    obtain ⟨i, hi⟩ := this
    have iw : i < w := Classical.byContradiction fun q => no_ft (b_off fa.lt q) hi
    exact ⟨i, iw, (bs_mem cc iw 1).mpr ⟨a, fa, by rw [hi]; rfl⟩⟩
theorem no_sure {w : Nat} {c : F2} (cc : Fc w c) : (¬ ∃ i, i < w ∧ bs c i = [1]) ↔ Fit w c 0 := by
  have key : ∀ i, i < w → (bs c i = [1] ↔ B c.2 i = true) := fun i hi => by
    unfold bs
    rcases cc.three hi with ⟨h1, h2⟩ | ⟨h1, h2⟩ | ⟨h1, h2, _⟩
    · rw [if_pos h1, h2]; decide
    · rw [if_neg (by rw [h1]; decide), if_pos h2, h2]; decide
    · rw [if_neg (by rw [h1]; decide), if_neg (by rw [h2]; decide), h2]; decide
  constructor
  · intro h
    refine ⟨Nat.two_pow_pos w, fun i _ => Nat.zero_testBit i, fun i o => (h ⟨i, ?_, ?_⟩).elim⟩
    · exact Classical.byContradiction fun q => no_ft (b_off cc.ho q) o
    · exact (key i (Classical.byContradiction fun q => no_ft (b_off cc.ho q) o)).mpr o
  · rintro f ⟨i, hi, h⟩
    have e := f.o i ((key i hi).mp h)
    rw [show B 0 i = false from Nat.zero_testBit i] at e
    cases e
theorem pick_bits {w : Nat} {c y z : F2} (cc : Fc w c) (cy : Fc w y) (cz : Fc w z) {P R : Prop} [Decidable P] [Decidable R] (hP : P ↔ ∃ i, i < w ∧ 1 ∈ bs c i) (hR : R ↔ ¬ ∃ i, i < w ∧ bs c i = [1]) {k : Nat} (hk : k < w) :
    set01 ((if P then bs y k else []) ++ (if R then bs z k else [])) = bs (fPick (most w) c y z) k := by
  rw [some_one cc] at hP
  rw [no_sure cc] at hR
  have h1 : ∀ n, n ∈ (if P then bs y k else []) ↔ P ∧ n ∈ bs y k := fun n => by
    by_cases h : P
    · rw [if_pos h]; exact ⟨fun q => ⟨h, q⟩, fun q => q.2⟩
    · rw [if_neg h]
      constructor
      · intro q; cases q
      · intro q; exact absurd q.1 h
  have h2 : ∀ n, n ∈ (if R then bs z k else []) ↔ R ∧ n ∈ bs z k := fun n => by
    by_cases h : R
    · rw [if_pos h]; exact ⟨fun q => ⟨h, q⟩, fun q => q.2⟩
    · rw [if_neg h]
      constructor
      · intro q; cases q
      · intro q; exact absurd q.1 h
  refine bs_set (tells_pick cc cy cz) ⟨_, _, _, _, fit_least cc, fit_least cy, fit_least cz, rfl⟩ hk fun n => ?_
  rw [List.mem_append, h1, h2, bs_mem cy hk, bs_mem cz hk]
  constructor
  · rintro (⟨p, b, fb, e⟩ | ⟨r, d, fd, e⟩)
    · obtain ⟨a, fa, ha⟩ := hP.mp p
      exact ⟨_, ⟨a, b, z.2, fa, fb, fit_least cz, rfl⟩, by rw [if_pos ha]; exact e⟩
    · exact ⟨_, ⟨0, y.2, d, hR.mp r, fit_least cy, fd, rfl⟩, by rw [if_neg (by decide)]; exact e⟩
  · rintro ⟨s, ⟨a, b, d, fa, fb, fd, rfl⟩, e⟩
    by_cases q : 0 < a
    · rw [if_pos q] at e
      exact .inl ⟨hP.mpr ⟨a, fa, q⟩, b, fb, e⟩
    · rw [if_neg q] at e
      have : a = 0 := by omega
      rw [this] at fa
      exact .inr ⟨hR.mpr fa, d, fd, e⟩
end K12

set_option Elab.async false
set_option linter.all false
set_option maxRecDepth 100000
set_option maxHeartbeats 4000000
namespace K12
open PySem PySem.Spec PyProof.Rows L2
/-! ### a draw and a new list beside it -/
theorem Dr.apart {H : Hp} {d c p : Addr} {ns : List Int} {n : Nat} (D : Dr H d c ns n) (h : H p = none) : ¬ p = d := fun e => by
  obtain ⟨_, _, _, z, _⟩ := D.at_
  rw [e, z] at h
  cases h
theorem Dr.apartC {H : Hp} {d c p : Addr} {ns : List Int} {n : Nat} (D : Dr H d c ns n) (h : H p = none) : ¬ p = c := fun z => by
  rw [z, D.cs] at h
  cases h
abbrev At2 (d L : Addr) : Addr → Prop := fun b => b = d ∨ b = L
theorem Kept.drop {H H3 H' : Hp} {d L : Addr} (a : Kept (At d) H H3) (n : H L = none) (b : Kept (At2 d L) H3 H') : Kept (At d) H H' := fun x o e hx => by
  refine ko_trans (a x o e hx) fun u q => b x u q ?_
  rintro (z | z)
  · exact hx z
  · exact ne_of_none e n z
theorem Kept.sql2 {K : PySem.W.Frag} {H H' : Hp} {d L p : Addr} {xs : List V} (k : Kept (At2 d L) H H') (n : H L = none) (nd : ¬ p = d) (h : SqL K H p xs) : SqL K H' p xs := by
  have nl : ∀ {o}, H p = some o → ¬ At2 d L p := fun {o} e z => by
    rcases z with z | z
    · exact nd z
    · exact ne_of_none e n z
  rcases h with (h | ⟨o, h⟩) | h
  · exact .inl (.inl (k.lst h (nl h)))
  · exact .inl (.inr ⟨o, k.frz h (nl h)⟩)
  · exact .inr h
theorem Dr.keep {H : Hp} {d c p : Addr} {o : HO} {ns : List Int} {n : Nat} (D : Dr H d c ns n) (h1 : p ≠ d) (h2 : p ≠ c) : Dr (L2.upd H p o) d c ns n := by
  obtain ⟨a, l, u, h, r⟩ := D.at_
  exact ⟨⟨a, l, u, by rw [upd_ne (Ne.symm h1)]; exact h, r⟩, by rw [upd_ne (Ne.symm h2)]; exact D.cs, D.ne⟩
end K12

set_option Elab.async false
set_option linter.all false
set_option maxRecDepth 100000
set_option maxHeartbeats 4000000
namespace K12
open PySem PySem.Spec PyProof.Rows L2
/-! ### set(a list of numbers), and sorted of that -/
section
variable {P : Program} {w : World} {A : Around} {E : Value → Shared → Prop} {s : Shared}
/-- a new set without members -/
abbrev noSet (w : World) : Obj := { cls := .type "set", dict := none, data := .set #[] 0 (.fresh 0 0 (!w.params.followText "set-order")) }
abbrev withNo (w : World) (s : Shared) : Shared := { s with heap := s.heap.push (noSet w) }
/-- what the list gives -/
abbrev Took (w : World) (s : Shared) (l : List Int) (h' : Heap) (c : Nat) : Prop := SetR w h' s.heap.objs.size (fun j => decide (j ∈ l)) c ∧ c ≤ l.length ∧ ∀ b o, s.heap.get? b = some o → h'.get? b = some o
theorem set_of_list {x : Addr} {xs : Array Value} (l : List Int) {Q : Value → Shared → Prop} (hA : A.handled = none) (il : s.heap.IsList x xs) (ia : IntsAre xs.toList l) (few : l.length + 1 < scanBound)
    (go : ∀ (h' : Heap) (tk c : Nat), Took w s l h' c → Q (.ref s.heap.objs.size) { s with heap := h', toks := tk }) : wpAny (model P w) A (call (.type "set") [.ref x]) Q E s := by
  have num : xs.size = l.length := by rw [← Array.length_toList]; exact IntsAre.length ia
  obtain ⟨cq, tq, mro⟩ := PySem.F.called_set.mro
  have made := PySem.F.called_set.made
  have sub := PySem.F.called_set.sub
  have noT := PySem.F.called_set.notType
  have can := PySem.F.called_set.canCreate
  have cl1 := PySem.F.typeCall_set_1 (.ref x)
  apply wpAny_call
  apply codeAny_of_tree
  show wpAny _ _ (callAny (.type "set") _) _ _ _
  apply wpAny_pure
  refine ⟨Code.quiet_builtin _ (by decide +kernel), codeAny_builtin PySem.F.entry_type_call ?_⟩
  rw [Around.under_plain (weight_type_call_type "set" [.ref x] []) rfl]
  repeat any_goals first | assumption | wp_step
  apply codeAny_mono (code_set_led1 (.ref x) (E := E) (Q₁ := fun o t => o = .ref s.heap.objs.size ∧ t = withNo w s) ⟨rfl, rfl⟩)
  intro r t hr
  match r, hr with
  | .error _, hr => exact hr
  | .ok (.ret o), hr =>
    obtain ⟨rfl, rfl⟩ := hr
    have gS : (s.heap.push (noSet w)).get? s.heap.objs.size = some (noSet w) := Heap.get?_push_size _ rfl
    have tS : Shared.TypeIs (withNo w s) (.ref s.heap.objs.size) "set" := ⟨_, gS, rfl⟩
    have look := PySem.F.called_set.init.lookup
    have bnd := PySem.F.called_set.init.bind (.ref s.heap.objs.size)
    repeat any_goals first | assumption | wp_step
    apply codeAny_mono (codeAny_call_builtin (R := wants (fun v t => v = .none ∧ ∃ h' tk c, t = { s with heap := h', toks := tk } ∧ Took w s l h' c) E) PySem.F.called_set.init.plain PySem.F.entry_set_init (check_set_init_1 tS ?_))
    · intro r2 t2 hr2
      match r2, hr2 with
      | .error _, hr2 => exact hr2
      | .ok (.ret v), hr2 =>
        obtain ⟨rfl, h', tk, c, rfl, took⟩ := hr2
        repeat any_goals first | assumption | wp_step
        exact go _ _ _ took
    · obtain ⟨⟨oc, od, dd, os⟩, ho, hc, n, hd⟩ := il
      simp only at hc hd
      subst hc hd
      have ho2 : (s.heap.push (noSet w)).get? x = some { cls := .type "list", dict := od, data := .seq xs n, slots := os } := Heap.get?_push_of_some _ ho
      have s1 := PySem.F.sub_list_set
      have s2 := PySem.F.sub_list_frozenset
      have s3 : (Value.type "list" == Value.type "dict") = false := by decide
      have il2 : (s.heap.push (noSet w)).IsList x xs := ⟨_, ho2, rfl, n, rfl⟩
      unfold Builtin.«set.__init__» noKeywords Builtin.Frozenset.updateFrom
      generalize hit : pyIter = it
      wp_walk
      subst hit
      apply wpAny_pyIter_list il2
      apply wpAny_bind
      apply wpAny_runValue
      have low : x < s.heap.objs.size := Heap.lt_size ho
      have sz : (s.heap.push (noSet w)).objs.size = s.heap.objs.size + 1 := Heap.size_push ..
      have none3 : A.in1.in1.in1.handled = none := by simp [hA]
      have ne1 : x ≠ (s.heap.push (noSet w)).objs.size := Nat.ne_of_lt (by rw [sz]; exact Nat.lt_succ_of_lt low)
      have out : s.heap.objs.size ∉ [(s.heap.push (noSet w)).objs.size, x] := by
        simp only [List.mem_cons, List.not_mem_nil, or_false, not_or]
        exact ⟨Nat.ne_of_lt (by rw [sz]; exact Nat.lt_succ_self _), Nat.ne_of_gt low⟩
      have val : ∀ (i : Nat) (v : Value), xs[i]? = some v → ∃ k t, l[i]? = some k ∧ v = .int k t := fun i v hv => by
        have lt : i < l.length := by rw [← num]; exact (Array.getElem?_eq_some_iff.mp hv).1
        obtain ⟨t, e⟩ := IntsAre.int_at ia i v (by rw [Array.getElem?_toList]; exact hv)
        exact ⟨l[i], t, List.getElem?_eq_getElem lt, by rw [e, List.getD_eq_getElem?_getD, List.getElem?_eq_getElem lt] <;> rfl⟩
      refine set_update_ints (Walks.list none3 _ x ne1 xs).toS s.heap.objs.size out l num few val (xs.size - 0) 0 _ (by omega) (Nat.zero_le _) ⟨⟨_, Heap.get?_push_size _ rfl, rfl, rfl⟩, il2.push _⟩ ⟨0, Nat.le_refl 0, setR_new_at (Heap.get?_push_of_some _ gS)⟩ ?_
      intro t c hm hc hS
      obtain ⟨h', g', d', tk, o'⟩ := t
      obtain rfl : g' = s.gens := hm.gens
      obtain rfl : d' = s.drawn := hm.drawn
      obtain rfl : o' = s.os := hm.os
      show wpAny _ _ _ _ _ _
      apply wpAny_pure
      show wpAny _ _ (ret Value.none) _ _ _
      apply wpAny_pure
      refine ⟨rfl, h', tk, c, rfl, hS, by omega, fun b u e => ?_⟩
      have lb : b < s.heap.objs.size := Heap.lt_size e
      refine hm.heap b u ?_ (Heap.get?_push_of_some _ (Heap.get?_push_of_some _ e))
      simp only [List.mem_cons, List.not_mem_nil, or_false, not_or]
      exact ⟨Nat.ne_of_lt lb, Nat.ne_of_lt (by rw [sz]; exact Nat.lt_succ_of_lt lb)⟩
end
section
variable {X : Cx}
def rSetL (K : PySem.W.Frag) (w : World) : List V → Hp → VK → Prop := fun vs H Q => ∃ (x : Addr) (l : List Int), vs = [V.ref x] ∧ SqL K H x (l.map V.int) ∧ l.length ≤ 60 ∧ ∀ (a : Addr) (c : Nat), H a = none → c ≤ l.length → Q (.ref a) (upd H a (SetO w a (fun j => decide (j ∈ l)) c))
theorem cr_setL (hc : X.calm = true) : CallR X (.type "set") (rSetL X.K X.w) := by
  intro pins s σ H vs us Q I r h
  obtain ⟨x, l, rfl, hl, few, q⟩ := h
  rw [Vals.ref1 r]
  obtain ⟨its, rv, pl, hz⟩ := I.list hl
  have fresh : H s.heap.objs.size = none := I.hok.fresh (Nat.le_refl _)
  refine set_of_list l (I.ok.hd hc) pl.isList (by simpa using rv.ints) (by unfold scanBound; omega) fun h' tk c took => ?_
  exact ⟨.ref s.heap.objs.size, upd H s.heap.objs.size (SetO X.w s.heap.objs.size _ c), I.laid (t' := tk) took.2.2 (Nat.le_refl _) (setO_new took.1), rfl, q _ c fresh took.2.1⟩
end
/-! ### sorted(set(l)): rising, each once -/
theorem rise_eq : ∀ {a b : List Int}, a.Pairwise (· < ·) → b.Pairwise (· < ·) → (∀ k, k ∈ a ↔ k ∈ b) → a = b
  | [], [], _, _, _ => rfl
  | [], y :: b, _, _, h => absurd ((h y).mpr List.mem_cons_self) List.not_mem_nil
  | x :: a, [], _, _, h => absurd ((h x).mp List.mem_cons_self) List.not_mem_nil
  | x :: a, y :: b, ha, hb, h => by
    obtain ⟨ha1, ha2⟩ := List.pairwise_cons.mp ha
    obtain ⟨hb1, hb2⟩ := List.pairwise_cons.mp hb
    have e : x = y := by
      have h1 := (h x).mp List.mem_cons_self
      have h2 := (h y).mpr List.mem_cons_self
      rcases List.mem_cons.mp h1 with q | q
      · exact q
      · rcases List.mem_cons.mp h2 with q2 | q2
        · exact q2.symm
        · have := hb1 x q
          have := ha1 y q2
          omega
    subst e
    rw [rise_eq ha2 hb2 fun k => ?_]
    constructor
    · intro q
      have := ha1 k q
      rcases List.mem_cons.mp ((h k).mp (List.mem_cons_of_mem _ q)) with z | z
      · omega
      · exact z
    · intro q
      have := hb1 k q
      rcases List.mem_cons.mp ((h k).mpr (List.mem_cons_of_mem _ q)) with z | z
      · omega
      · exact z
theorem nat_mem {l : List Nat} {k : Nat} : (k : Int) ∈ l.map (fun n : Nat => (n : Int)) ↔ k ∈ l := by
  rw [List.mem_map]
  constructor
  · rintro ⟨n, h, e⟩
    rw [show k = n by omega]; exact h
  · intro h
    exact ⟨k, h, rfl⟩
theorem rise012 (l : List Nat) : (set012 l).Pairwise (· < ·) := by
  unfold set012
  by_cases h0 : 0 ∈ l <;> by_cases h1 : 1 ∈ l <;> by_cases h2 : 2 ∈ l <;> simp [h0, h1, h2]
theorem rise_map {l : List Nat} (h : l.Pairwise (· < ·)) : (l.map fun n : Nat => (n : Int)).Pairwise (· < ·) := by
  rw [List.pairwise_map]
  exact h.imp fun q => by omega
theorem sorted012 {l : List Nat} (h : ∀ n ∈ l, n ≤ 2) {ns : List Int} (h1 : ns.Pairwise (· < ·)) (h2 : ∀ k : Int, k ∈ ns ↔ decide (k ∈ l.map fun n : Nat => (n : Int)) = true) : ns = (set012 l).map fun n : Nat => (n : Int) := by
  refine rise_eq h1 (rise_map (rise012 l)) fun k => ?_
  rw [h2, decide_eq_true_iff, List.mem_map, List.mem_map]
  constructor
  · rintro ⟨n, q, e⟩
    exact ⟨n, (set012_mem h n).mpr q, e⟩
  · rintro ⟨n, q, e⟩
    exact ⟨n, (set012_mem h n).mp q, e⟩
theorem set012_01 {l : List Nat} (h : ∀ n ∈ l, n ≤ 1) : set012 l = set01 l := by
  have h2 : ¬ 2 ∈ l := fun q => by have := h 2 q; omega
  unfold set012 set01
  rw [if_neg h2, List.append_nil]
/-- sorted(set(l)) at a list of numbers up to 2 -/
theorem ss_at {K : PySem.W.Frag} {w : World} {H : Hp} {x : Addr} {l : List Nat} {Q : VK} (e : H x = some (.lst (nums l))) (few : l.length ≤ 60) (le : ∀ n ∈ l, n ≤ 2)
    (q : ∀ (p : Addr) (H2 : Hp), Kept None H H2 → H p = none → H2 p = some (.lst (nums (set012 l))) → Q (.ref p) H2) : rSetL K w [.ref x] H (fun y H' => rSortedSet w [y] H' Q) := by
  refine ⟨x, l.map fun n : Nat => (n : Int), rfl, SqL.of (by rw [e]; unfold nums; rw [List.map_map]; rfl), by rw [List.length_map]; exact few, fun a c ha hc => ?_⟩
  rw [List.length_map] at hc
  refine ⟨a, _, c, rfl, upd_same, by omega, fun ns p h1 h2 h3 hp => ?_⟩
  have k1 : Kept None H (upd H a (SetO w a (fun j => decide (j ∈ l.map fun n : Nat => (n : Int))) c)) := Kept.refl.new ha
  have hp0 := k1.free hp
  refine q p _ (k1.trans (Kept.refl.new hp)) hp0 ?_
  rw [upd_same, sorted012 le h1 h2]
  unfold nums
  rw [List.map_map]; rfl
theorem ss01_at {K : PySem.W.Frag} {w : World} {H : Hp} {x : Addr} {l : List Nat} {Q : VK} (e : H x = some (.lst (nums l))) (few : l.length ≤ 60) (le : ∀ n ∈ l, n ≤ 1)
    (q : ∀ (p : Addr) (H2 : Hp), Kept None H H2 → H p = none → H2 p = some (.lst (nums (set01 l))) → Q (.ref p) H2) : rSetL K w [.ref x] H (fun y H' => rSortedSet w [y] H' Q) :=
  ss_at e few (fun n h => by have := le n h; omega) fun p H2 k hp e2 => q p H2 k hp (by rw [e2, set012_01 le])
theorem ss_go {K : PySem.W.Frag} {w : World} {H : Hp} {x : Addr} {l : List Nat} {Q R : VK} (e : H x = some (.lst (nums l))) (few : l.length ≤ 60) (le : ∀ n ∈ l, n ≤ 2) (hR : ∀ y H', rSortedSet w [y] H' Q → R y H')
    (q : ∀ (p : Addr) (H2 : Hp), Kept None H H2 → H p = none → H2 p = some (.lst (nums (set012 l))) → Q (.ref p) H2) : rSetL K w [.ref x] H R := by
  obtain ⟨x', l', h1, h2, h3, h4⟩ := ss_at (K := K) (w := w) e few le q
  exact ⟨x', l', h1, h2, h3, fun a c ha hc => hR _ _ (h4 a c ha hc)⟩
theorem ss01_go {K : PySem.W.Frag} {w : World} {H : Hp} {x : Addr} {l : List Nat} {Q R : VK} (e : H x = some (.lst (nums l))) (few : l.length ≤ 60) (le : ∀ n ∈ l, n ≤ 1) (hR : ∀ y H', rSortedSet w [y] H' Q → R y H')
    (q : ∀ (p : Addr) (H2 : Hp), Kept None H H2 → H p = none → H2 p = some (.lst (nums (set01 l))) → Q (.ref p) H2) : rSetL K w [.ref x] H R := by
  obtain ⟨x', l', h1, h2, h3, h4⟩ := ss01_at (K := K) (w := w) e few le q
  exact ⟨x', l', h1, h2, h3, fun a c ha hc => hR _ _ (h4 a c ha hc)⟩
end K12

set_option Elab.async false
set_option linter.all false
set_option maxRecDepth 100000
set_option maxHeartbeats 4000000
namespace K12
open PySem PySem.Spec PyProof.Rows L2
/-! ### sum(lists, []) -/
section
variable {P : Program} {w : World} {A : Around} {E : Value → Shared → Prop} {s : Shared}
abbrev lob (xs : List Value) (c : Nat) : Obj := { cls := .type "list", dict := none, data := .seq xs.toArray c, slots := #[] }
theorem add_lists {x y : Addr} {xs ys : List Value} {c d : Nat} {Q : Value → Shared → Prop} (hx : s.heap.get? x = some (lob xs c)) (hy : s.heap.get? y = some (lob ys d)) (sz : xs.length + ys.length ≤ sizeLine)
    (go : Q (.ref s.heap.objs.size) { s with heap := s.heap.push (lob (xs ++ ys) 0) }) : wpAny (model P w) A (binaryOp .Add (.ref x) (.ref y)) Q E s := by
  have e : xs.toArray ++ ys.toArray = (xs ++ ys).toArray := by simp
  refine PySem.concat_meets ⟨_, hx, rfl⟩ ⟨_, hy, rfl⟩ noFill_list_add seq_list_add PySem.F.slot_list_add PySem.F.entry_list_add (PySem.F.args_list_add_2 _ _)
    (list_addW x y xs.toArray ys.toArray c d none none #[] #[] (by rw [List.size_toArray, List.size_toArray]; exact sz)) ⟨hx, hy, ?_⟩
  rw [e]
  exact go
/-- the lists one behind the other, as far as i -/
def upto (row : Nat → List Value) : Nat → List Value
  | 0 => []
  | i + 1 => upto row i ++ row i
theorem args_sumTwo (a b : Value) : argsOk "sum" ⟨[a, b], []⟩ := by unfold argsOk; kernel_rfl
theorem sum_go {I S L : Addr} {items : List Value} {row : Nat → List Value} {it : Nat → Addr} (none1 : A.in1.handled = none) (hit : ∀ i v, items[i]? = some v → v = Value.ref (it i)) (IS : S ≠ I) (IL : L ≠ I) (SL : S ≠ L) (few : (upto row items.length).length ≤ 1000) (fewR : ∀ i, i ≤ items.length → (upto row i).length ≤ 1000) (rowR : ∀ i, (row i).length ≤ 1000) {R : Result → Shared → Prop} :
    ∀ (k i : Nat) (s : Shared) (t c d : Nat), items.length - i = k → i ≤ items.length → s.heap.IsListIter I L i → s.heap.IsList L items.toArray → s.heap.get? S = some (lob [.ref t] c) → s.heap.get? t = some (lob (upto row i) d) → t ≠ S → t ≠ I →
      (∀ j, i ≤ j → j < items.length → (∃ e, s.heap.get? (it j) = some (lob (row j) e)) ∧ it j ≠ S ∧ it j ≠ I) →
      (∀ (h' : Heap) (tk t' d' : Nat), (∀ b o, b ≠ I → b ≠ S → s.heap.get? b = some o → h'.get? b = some o) → h'.get? t' = some (lob (upto row items.length) d') → (t' = t ∨ s.heap.get? t' = none) → R (.ok (.ret (.ref t'))) { s with heap := h', toks := tk }) →
      codeAny (model P w) A (.builtin "sum.loop" ⟨[.ref I, .ref S, rawInt 2, rawInt 0], []⟩) R s := by
  have W := Walks.list (prog := P) (w := w) (A := A.in1) none1 I L IL items.toArray
  intro k
  induction k with
  | zero =>
    intro i s t c d hk hi hI hL hS ht tS tI _ go
    have e : i = items.toArray.size := by rw [List.size_toArray]; omega
    subst e
    apply codeAny_builtin PySem.F.entry_sum_loop
    rw [Around.under_plainId PySem.F.plain_sum_loop _]
    show wpAny _ A.in1 (seqItems? (.ref S) >>= _) _ _ s
    apply wpAny_bind
    apply wpAny_seqItems hS rfl
    show wpAny _ A.in1 (tryCatch (pyNext (.ref I)) _ >>= _) _ _ s
    apply wpAny_bind
    apply wpAny_tryCatch
    refine W.done s _ _ ⟨hI, hL⟩ fun h' tk kp => ?_
    apply wpAny_pure
    rw [List.size_toArray] at ht
    exact go h' tk t d (fun b o n1 _ e => kp b o (by simpa using n1) e) (kp t _ (by simpa using tI) ht) (.inl rfl)
  | succ k ih =>
    intro i s t c d hk hi hI hL hS ht tS tI rows go
    have lt : i < items.toArray.size := by rw [List.size_toArray]; omega
    have lt' : i < items.length := by omega
    apply codeAny_builtin PySem.F.entry_sum_loop
    rw [Around.under_plainId PySem.F.plain_sum_loop _]
    show wpAny _ A.in1 (seqItems? (.ref S) >>= _) _ _ s
    apply wpAny_bind
    apply wpAny_seqItems hS rfl
    show wpAny _ A.in1 (tryCatch (pyNext (.ref I)) _ >>= _) _ _ s
    apply wpAny_bind
    apply wpAny_tryCatch
    refine W.item i s _ _ lt ⟨hI, hL⟩ fun v h' tk hv st kp => ?_
    obtain rfl := hit i v (by simpa using hv)
    obtain ⟨hI2, hL2⟩ := st
    have kp' : ∀ b o, b ≠ I → s.heap.get? b = some o → h'.get? b = some o := fun b o n e => kp b o (by simpa using n) e
    have hS2 := kp' S _ IS hS
    have ht2 := kp' t _ tI ht
    obtain ⟨⟨ej, hj⟩, njS, njI⟩ := rows i (Nat.le_refl _) lt'
    have hj2 := kp' _ _ njI hj
    show wpAny _ A.in1 ((holding [Value.ref (it i)] (binaryOp .Add (.ref t) (.ref (it i)))).attempt >>= _) _ _ _
    apply wpAny_bind
    apply wpAny_attempt
    apply wpAny_holding
    refine add_lists ht2 hj2 (by have := fewR i hi; have := rowR i; rw [sizeLine_eq]; omega) ?_
    have tnew : (h'.push (lob (upto row i ++ row i) 0)).get? h'.objs.size = some (lob (upto row (i + 1)) 0) := Heap.get?_push_size _ rfl
    have hS3 : (h'.push (lob (upto row i ++ row i) 0)).get? S = some (lob [.ref t] c) := Heap.get?_push_of_some _ hS2
    show wpAny _ A.in1 (updateSeq S (fun _ => #[Value.ref h'.objs.size]) >>= _) _ _ _
    apply wpAny_bind
    refine wpAny_updateSeq hS3 rfl ?_
    have hS4 := Heap.get?_update_self (Obj.mapSeq fun _ => #[Value.ref h'.objs.size]) hS3 rfl
    apply wpAny_bind
    apply wpAny_letGo
    apply wpAny_bind
    refine wpAny_updateSeq hS4 rfl ?_
    have hS5 := Heap.get?_update_self (Obj.mapSeq fun _ => #[Value.ref h'.objs.size]) hS4 rfl
    have Slt : S < h'.objs.size := Heap.lt_size hS2
    have Ilt : I < h'.objs.size := by obtain ⟨o, ho, _⟩ := hI2; exact Heap.lt_size ho
    -- what stood, stands, but at S
    have old : ∀ b o, b ≠ S → h'.get? b = some o → (((h'.push (lob (upto row i ++ row i) 0)).update S (Obj.mapSeq fun _ => #[Value.ref h'.objs.size])).update S (Obj.mapSeq fun _ => #[Value.ref h'.objs.size])).get? b = some o := fun b o n e =>
      (Heap.get?_update_other _ _ (Ne.symm n)).trans ((Heap.get?_update_other _ _ (Ne.symm n)).trans (Heap.get?_push_of_some _ e))
    have tn : (((h'.push (lob (upto row i ++ row i) 0)).update S (Obj.mapSeq fun _ => #[Value.ref h'.objs.size])).update S (Obj.mapSeq fun _ => #[Value.ref h'.objs.size])).get? h'.objs.size = some (lob (upto row (i + 1)) 0) :=
      (Heap.get?_update_other _ _ (Nat.ne_of_lt Slt)).trans ((Heap.get?_update_other _ _ (Nat.ne_of_lt Slt)).trans tnew)
    have back : ∀ b, b ≠ I → b ≠ S → (((h'.push (lob (upto row i ++ row i) 0)).update S (Obj.mapSeq fun _ => #[Value.ref h'.objs.size])).update S (Obj.mapSeq fun _ => #[Value.ref h'.objs.size])).get? b = none → s.heap.get? b = none := fun b n1 n2 e => by
      cases q : s.heap.get? b with
      | none => rfl
      | some o =>
        rw [old b o n2 (kp' b o n1 q)] at e
        cases e
    have big : s.heap.get? h'.objs.size = none := by
      cases q : s.heap.get? h'.objs.size with
      | none => rfl
      | some o => exact absurd (Heap.lt_size (kp' _ o (Nat.ne_of_gt Ilt) q)) (Nat.lt_irrefl _)
    apply wpAny_pure
    refine ⟨plainId_quiet PySem.F.plain_sum_loop _, ih (i + 1) _ h'.objs.size _ 0 (by omega) (by omega) (hI2.at fun o e => old I o (Ne.symm IS) e) (hL2.at fun o e => old L o (Ne.symm SL) e) hS5 tn (Nat.ne_of_gt Slt) (Nat.ne_of_gt Ilt) (fun j hj1 hj2 => ?_) (fun h2 tk2 t2 d2 kp2 ht2 or2 => ?_)⟩
    · obtain ⟨⟨e2, q1⟩, q2, q3⟩ := rows j (by omega) hj2
      exact ⟨⟨e2, old _ _ q2 (kp' _ _ q3 q1)⟩, q2, q3⟩
    · refine go h2 tk2 t2 d2 (fun b o n1 n2 e => kp2 b o n1 n2 (old b o n2 (kp' b o n1 e))) ht2 (.inr ?_)
      rcases or2 with rfl | q
      · exact big
      · refine back t2 (fun e => ?_) (fun e => ?_) q
        · obtain ⟨o, ho, _⟩ := hI2
          rw [e, old I o (Ne.symm IS) ho] at q
          cases q
        · rw [e, hS5] at q
          cases q
theorem sum_lists {L Z : Addr} {items : List Value} {cL cZ : Nat} {row : Nat → List Value} {it : Nat → Addr} {Q : Value → Shared → Prop} (hA : A.handled = none) (hL : s.heap.get? L = some (lob items cL)) (hZ : s.heap.get? Z = some (lob [] cZ)) (hit : ∀ i v, items[i]? = some v → v = Value.ref (it i))
    (fewR : ∀ i, i ≤ items.length → (upto row i).length ≤ 1000) (rowR : ∀ i, (row i).length ≤ 1000) (rows : ∀ j, j < items.length → ∃ e, s.heap.get? (it j) = some (lob (row j) e))
    (go : ∀ (h' : Heap) (tk t' d' : Nat), (∀ b o, s.heap.get? b = some o → h'.get? b = some o) → h'.get? t' = some (lob (upto row items.length) d') → (t' = Z ∨ s.heap.get? t' = none) → Q (.ref t') { s with heap := h', toks := tk }) :
    wpAny (model P w) A (call (.builtin "sum") [.ref L, .ref Z]) Q E s := by
  refine call_function_tree PySem.F.kind_sum PySem.F.plain_sum PySem.F.entry_sum (args_sumTwo _ _) ?_
  unfold Builtin.«sum»
  simp only [List.length_cons, List.length_nil]
  rw [if_neg (by decide)]
  refine wpAny_bind (wpAny_of_eq (show Builtin.Builtins.bindParams "sum" ["start"] 0 ⟨[Value.ref Z], []⟩ = pure [some (Value.ref Z)] from rfl) ?_)
  have isL : s.heap.IsList L items.toArray := ⟨_, hL, rfl, _, rfl⟩
  apply wpAny_bind
  apply wpAny_pyIter_list isL
  have hZ2 : Shared.TypeIs { s with heap := s.heap.push { cls := .type "list_iterator", data := .fields #[.ref L, .int 0 0] } } (.ref Z) "list" := ⟨_, Heap.get?_push_of_some _ hZ, rfl⟩
  apply wpAny_bind
  apply wpAny_pure
  simp only [List.forIn_cons, List.forIn_nil]
  refine wpAny_bind (wpAny_bind (wpAny_bind (wpAny_isInstance hZ2 PySem.F.sub_list_str ?_)))
  simp only [Bool.false_eq_true, if_false]
  refine wpAny_pure (wpAny_bind (wpAny_bind (wpAny_isInstance hZ2 PySem.F.sub_list_bytes ?_)))
  simp only [Bool.false_eq_true, if_false]
  refine wpAny_pure (wpAny_bind (wpAny_bind (wpAny_isInstance hZ2 PySem.F.sub_list_bytearray ?_)))
  simp only [Bool.false_eq_true, if_false]
  refine wpAny_pure (wpAny_pure ?_)
  apply wpAny_bind
  refine wpAny_newList ?_
  have szL : L < s.heap.objs.size := Heap.lt_size hL
  have szZ : Z < s.heap.objs.size := Heap.lt_size hZ
  have sz1 : (s.heap.push { cls := .type "list_iterator", data := .fields #[.ref L, .int 0 0] }).objs.size = s.heap.objs.size + 1 := Heap.size_push ..
  have two : ∀ b o, s.heap.get? b = some o → ((s.heap.push { cls := .type "list_iterator", data := .fields #[.ref L, .int 0 0] }).push (lob [.ref Z] 0)).get? b = some o := fun b o e => Heap.get?_push_of_some _ (Heap.get?_push_of_some _ e)
  apply wpAny_pure
  refine ⟨plainId_quiet PySem.F.plain_sum_loop _, sum_go (I := s.heap.objs.size) (S := (s.heap.push { cls := .type "list_iterator", data := .fields #[.ref L, .int 0 0] }).objs.size) (L := L) (items := items) (row := row) (it := it) (by simp [hA]) hit
    (Nat.ne_of_gt (by rw [sz1]; exact Nat.lt_succ_self _)) (Nat.ne_of_lt szL) (Nat.ne_of_gt (by rw [sz1]; exact Nat.lt_succ_of_lt szL)) (fewR _ (Nat.le_refl _)) fewR rowR _ 0 _ Z 0 cZ rfl (Nat.zero_le _) ?_ ?_ (Heap.get?_push_size _ rfl) (two _ _ hZ) (Nat.ne_of_lt (by rw [sz1]; exact Nat.lt_succ_of_lt szZ)) (Nat.ne_of_lt szZ) (fun j _ hj => ?_) (fun h' tk t' d' kp e or => ?_)⟩
  · exact ⟨_, Heap.get?_push_of_some _ (Heap.get?_push_size _ rfl), rfl, rfl⟩
  · exact ⟨_, two _ _ hL, rfl, _, rfl⟩
  · obtain ⟨e, q⟩ := rows j hj
    have lt := Heap.lt_size q
    exact ⟨⟨e, two _ _ q⟩, Nat.ne_of_lt (by rw [sz1]; exact Nat.lt_succ_of_lt lt), Nat.ne_of_lt lt⟩
  · refine go h' tk t' d' (fun b o q => kp b o (Nat.ne_of_lt (Heap.lt_size q)) (Nat.ne_of_lt (by rw [sz1]; exact Nat.lt_succ_of_lt (Heap.lt_size q))) (two b o q)) e ?_
    rcases or with rfl | q
    · exact .inl rfl
    · refine .inr ?_
      cases z : s.heap.get? t' with
      | none => rfl
      | some o =>
        rw [two t' o z] at q
        cases q
end
section
variable {X : Cx}
theorem obj_there {P : Program} {w : World} {H : Hp} {h : Heap} {a : Addr} {o : HO} (x : ObjOk P w H h a o) : ∃ u, h.get? a = some u := by
  cases o with
  | lst xs => obtain ⟨_, _, _, _, e⟩ := x; exact ⟨_, e⟩
  | tup xs => obtain ⟨_, _, _, _, e, _⟩ := x; exact ⟨_, e⟩
  | dK kvs => obtain ⟨_, _, _, _, o, _, _, e, _⟩ := x; exact ⟨_, e⟩
  | dT kvs => obtain ⟨_, _, _, _, o, _, _, e, _⟩ := x; exact ⟨_, e⟩
  | set S n => obtain ⟨o, _, _, _, e, _⟩ := x; exact ⟨_, e⟩
  | ins C dx fs => obtain ⟨_, _, _, e, _⟩ := x; exact ⟨_, e⟩
  | own y => obtain ⟨_, e⟩ := x; exact ⟨_, e⟩
  | xd fs => obtain ⟨_, ⟨_, _, _, e, _⟩, _⟩ := x; exact ⟨_, e⟩
  | rng lo hi => obtain ⟨_, _, _, e⟩ := x; exact ⟨_, e⟩
  | frz ob u => obtain ⟨e, _⟩ := x; exact ⟨_, e⟩
  | tbl ps => exact ⟨_, x⟩
  | met f y => exact ⟨_, x⟩
  | ext φ => obtain ⟨_, ⟨_, e⟩, _⟩ := x; exact ⟨_, e⟩
theorem ref_vals : ∀ {as : List Addr} {us : List Value}, Vals (as.map V.ref) us → us = as.map Value.ref
  | [], _, .nil => rfl
  | a :: as, _, .cons r t => by
    cases r
    rw [ref_vals t]; rfl
/-- sum(lists, []) of lists of numbers -/
def rSumL : List V → Hp → VK → Prop := fun vs H Q => ∃ (L Z : Addr) (as : List Addr) (ls : List (List Nat)), vs = [.ref L, .ref Z] ∧ H L = some (.lst (as.map V.ref)) ∧ H Z = some (.lst []) ∧ as.length = ls.length ∧ as.length ≤ 10 ∧
  (∀ (i : Nat) (a : Addr) (l : List Nat), as[i]? = some a → ls[i]? = some l → H a = some (.lst (nums l)) ∧ l.length ≤ 10) ∧ ∀ (p : Addr) (H' : Hp), Kept None H H' → H' p = some (.lst (nums ls.flatten)) → Q (.ref p) H'
theorem cr_sumL (hc : X.calm = true) : CallR X (.builtin "sum") rSumL := by
  intro pins s σ H vs us Q I r h
  obtain ⟨L, Z, as, ls, rfl, hL, hZ, el, few, rows, q⟩ := h
  obtain ⟨u1, u2, rfl, r1, r2⟩ := vals2 r
  obtain rfl : u1 = Value.ref L := r1
  obtain rfl : u2 = Value.ref Z := r2
  obtain ⟨_, itsL, nL, vL, lenL, gL⟩ := I.lstM hL
  obtain ⟨_, itsZ, nZ, vZ, _, gZ⟩ := I.lstM hZ
  obtain rfl := ref_vals vL
  cases vZ
  have each : ∀ i, ∃ r : List Value, r.length ≤ 10 ∧ ∀ (a : Addr) (l : List Nat), as[i]? = some a → ls[i]? = some l → Vals (nums l) r ∧ ∃ e, s.heap.get? a = some (lob r e) := fun i => by
    by_cases hi : i < as.length
    · have ha := List.getElem?_eq_getElem hi
      have hl := List.getElem?_eq_getElem (l := ls) (i := i) (by omega)
      obtain ⟨e1, e2⟩ := rows i _ _ ha hl
      obtain ⟨_, r, n, v, lr, g⟩ := I.lstM e1
      refine ⟨r, by rw [← lr]; unfold nums; rw [List.length_map]; exact e2, fun a l h1 h2 => ?_⟩
      rw [ha] at h1
      rw [hl] at h2
      cases h1
      cases h2
      exact ⟨v, n, g⟩
    · refine ⟨[], Nat.zero_le _, fun a l h1 _ => ?_⟩
      rw [List.getElem?_eq_none (by omega)] at h1
      cases h1
  obtain ⟨row, hrow⟩ := Classical.axiomOfChoice each
  have short : ∀ i, (upto row i).length ≤ 10 * i := fun i => by
    induction i with
    | zero => exact Nat.le_refl _
    | succ i ih =>
      have := (hrow i).1
      show (upto row i ++ row i).length ≤ _
      rw [List.length_append]
      omega
  have vals : ∀ i, i ≤ as.length → Vals (nums (ls.take i).flatten) (upto row i) := fun i => by
    induction i with
    | zero => intro _; exact .nil
    | succ i ih =>
      intro hi
      have hl := List.getElem?_eq_getElem (l := ls) (i := i) (by omega)
      have v := ((hrow i).2 _ _ (List.getElem?_eq_getElem (by omega)) hl).1
      have e : nums (ls.take (i + 1)).flatten = nums (ls.take i).flatten ++ nums ls[i] := by
        have e2 : (ls.take (i + 1)).flatten = (ls.take i).flatten ++ ls[i] := by
          rw [List.take_add_one, hl, List.flatten_append]
          show _ ++ [ls[i]].flatten = _
          rw [List.flatten_cons, List.flatten_nil, List.append_nil]
        rw [e2]
        unfold nums
        rw [List.map_append]
      rw [e]
      exact (ih (by omega)).append v
  have lenR : (as.map Value.ref).length = as.length := List.length_map _
  have all := vals as.length (Nat.le_refl _)
  rw [el, List.take_length, ← el] at all
  refine sum_lists (items := as.map Value.ref) (row := row) (it := fun i => as.getD i 0) (I.ok.hd hc) gL gZ (fun i v hv => ?_) (fun i hi => ?_) (fun i => ?_) (fun j hj => ?_) (fun h' tk t' d' kp e or => ?_)
  · rw [List.getElem?_map] at hv
    obtain ⟨a, ha, rfl⟩ := Option.map_eq_some_iff.mp hv
    rw [List.getD_eq_getElem?_getD, ha]; rfl
  · rw [lenR] at hi
    have := short i
    omega
  · have := (hrow i).1
    omega
  · rw [lenR] at hj
    have ha := List.getElem?_eq_getElem hj
    rw [List.getD_eq_getElem?_getD, ha]
    exact ((hrow j).2 _ _ ha (List.getElem?_eq_getElem (by omega))).2
  · rw [lenR] at e
    rcases or with rfl | fr
    · have e2 := (kp _ _ gZ).symm.trans e
      have e3 : upto row as.length = [] := by
        have e4 := congrArg Obj.data (Option.some.inj e2)
        injection e4 with e5 _
        exact (List.toArray_inj e5).symm
      rw [e3] at all
      refine ⟨.ref t', H, I.kept kp, rfl, q t' H Kept.refl ?_⟩
      rw [hZ]
      generalize nums ls.flatten = N at all
      cases all
      rfl
    · have hn : H t' = none := by
        cases z : H t' with
        | none => rfl
        | some o =>
          obtain ⟨u, g⟩ := obj_there (I.hok t' o z)
          rw [fr] at g
          cases g
      have lz : (nums ls.flatten).length ≤ sizeLine := by
        rw [all.length, sizeLine_eq]
        have := short as.length
        omega
      exact ⟨.ref t', upd H t' (.lst (nums ls.flatten)), I.laidN kp fr hn ⟨lz, _, d', all, e⟩, rfl, q t' _ (Kept.refl.new hn) upd_same⟩
end
end K12

set_option Elab.async false
set_option linter.all false
set_option maxRecDepth 100000
set_option maxHeartbeats 4000000
namespace K12
open PySem PySem.Spec PyProof.Rows L2
/-! ### sums of bits; lists of what bits may be -/
theorem nums_can : ∀ l : List Nat, PyData.canLayAll0 (l.map fun n : Nat => PyData.int (n : Int)) = true
  | [] => rfl
  | x :: l => by
    show (PyData.canLay0 (PyData.int (x : Int)) && PyData.canLayAll0 (l.map fun n : Nat => PyData.int (n : Int))) = true
    rw [nums_can l, Bool.and_true]; rfl
theorem nums_deep : ∀ l : List Nat, PyData.depthAll (l.map fun n : Nat => PyData.int (n : Int)) = 0
  | [] => rfl
  | x :: l => by
    show max (PyData.depth (PyData.int (x : Int))) (PyData.depthAll (l.map fun n : Nat => PyData.int (n : Int))) = 0
    rw [nums_deep l]; rfl
theorem nums_shaped (l : List Nat) : SeqAt.shaped (numsD l) = true := by
  unfold SeqAt.shaped
  have e : PyData.canLay0 (numsD l) = true := nums_can l
  have d : PyData.depth (numsD l) = 1 := by
    show PyData.depthAll (l.map fun n : Nat => PyData.int (n : Int)) + 1 = 1
    rw [nums_deep]
  rw [e, d]
  rfl
def sel (p : Nat → Bool) (n : Nat) : List Nat := ((List.range n).filter p).map fun k => 2 ^ k
theorem sel_succ (p : Nat → Bool) (n : Nat) : sel p (n + 1) = if p n = true then sel p n ++ [2 ^ n] else sel p n := by
  unfold sel
  rw [List.range_succ, List.filter_append]
  by_cases h : p n = true
  · rw [if_pos h]; simp [h]
  · rw [if_neg h]; simp [h]
theorem sel_len (p : Nat → Bool) (n : Nat) : (sel p n).length ≤ n := by
  unfold sel
  rw [List.length_map]
  exact Nat.le_trans (List.length_filter_le _ _) (by rw [List.length_range]; exact Nat.le_refl _)
theorem sel_sum (p : Nat → Bool) : ∀ (n x : Nat), x < 2 ^ n → (∀ i, i < n → B x i = p i) → (sel p n).sum = x
  | 0, x, h, _ => by
    have : x = 0 := by omega
    subst this; rfl
  | n + 1, x, h, hp => by
    have h2 : x < 2 * 2 ^ n := by rw [← Nat.pow_succ']; exact h
    have ih := sel_sum p n (x % 2 ^ n) (Nat.mod_lt _ (Nat.two_pow_pos n)) fun i hi => by
      rw [← hp i (by omega)]
      show (x % 2 ^ n).testBit i = _
      rw [Nat.testBit_mod_two_pow, decide_eq_true hi, Bool.true_and]
    have dm := Nat.div_add_mod x (2 ^ n)
    have d2 : x / 2 ^ n < 2 := Nat.div_lt_of_lt_mul (by rw [Nat.mul_comm]; exact h2)
    have hb := hp n (by omega)
    have hb' : x.testBit n = decide (x / 2 ^ n % 2 = 1) := Nat.testBit_eq_decide_div_mod_eq
    rw [sel_succ]
    by_cases q : p n = true
    · rw [if_pos q, List.sum_append, ih]
      rw [show x.testBit n = true from by rw [← q]; exact hb] at hb'
      have e1 := of_decide_eq_true hb'.symm
      have e2 : x / 2 ^ n = 1 := (Nat.mod_eq_of_lt d2).symm.trans e1
      rw [e2, Nat.mul_one] at dm
      simp only [List.sum_cons, List.sum_nil]
      omega
    · rw [if_neg q, ih]
      rw [show x.testBit n = false from by rw [show x.testBit n = p n from hb]; exact Bool.eq_false_iff.mpr q] at hb'
      have e1 := of_decide_eq_false hb'.symm
      have e2 : x / 2 ^ n = 0 := by
        have e3 : x / 2 ^ n ≠ 1 := fun z => e1 (by rw [z])
        generalize x / 2 ^ n = u at d2 e3 ⊢
        omega
      rw [e2, Nat.mul_zero] at dm
      omega
theorem nums_int (l : List Nat) : nums l = (l.map fun n : Nat => (n : Int)).map V.int := by
  unfold nums
  rw [List.map_map]; rfl
theorem sum_cast : ∀ l : List Nat, (l.map fun n : Nat => (n : Int)).sum = ((l.sum : Nat) : Int)
  | [] => rfl
  | x :: l => by rw [List.map_cons, List.sum_cons, List.sum_cons, sum_cast l]; omega
def rSumE (K : PySem.W.Frag) : List V → Hp → VK → Prop := fun vs H Q => ∃ (a : Addr) (ns : List Nat) (k : Nat), vs = [V.ref a] ∧ H a = some (.lst (nums ns)) ∧ ns.sum = k ∧ Q (.int (k : Int)) H
theorem cr_sumE {X : Cx} (hc : X.calm = true) : CallR X (.builtin "sum") (rSumE X.K) := by
  intro pins s σ H xs us Q I r h
  obtain ⟨a, ns, k, rfl, e, rfl, q⟩ := h
  refine cr_sum hc pins s σ H _ us Q I r ⟨a, ns.map fun n : Nat => (n : Int), rfl, SqL.of (by rw [← nums_int]; exact e), ?_⟩
  rw [sum_cast]
  exact q
/-- the list at L holds, for each bit, the list of what it may be -/
structure BL (H : Hp) (L : Addr) (w : Nat) (f : F2) : Prop where
  ex : ∃ ts : List Addr, ts.length = w ∧ H L = some (.lst (ts.map V.ref)) ∧ ∀ (i : Nat) (t : Addr), ts[i]? = some t → H t = some (.lst (nums (bs f i)))
theorem BL.kept {H H' : Hp} {L : Addr} {w : Nat} {f : F2} {D : Addr → Prop} (h : BL H L w f) (k : Kept D H H') (nD : ∀ {b o}, H b = some (.lst o) → ¬ D b) : BL H' L w f := by
  obtain ⟨ts, e1, e2, e3⟩ := h.ex
  exact ⟨ts, e1, k.lst e2 (nD e2), fun i t q => k.lst (e3 i t q) (nD (e3 i t q))⟩
/-- a comprehension over enumerate(bits): the powers of two where p holds -/
theorem sum_bl {K : PySem.W.Frag} {v : Nat} {f : F2} {L : Addr} {H1 : Hp} {tt : TT} {x0 x1 : Option V} {Qd : Hp → Prop} {D : Addr} {p : Nat → Bool} (hD : H1 D = none) (hv : v ≤ 100) (hL : BL H1 L v f)
    (htt : ∀ (i : Nat) (T : Addr) (H' : Hp) (R : Bool → Hp → Prop), i < v → H' T = some (.lst (nums (bs f i))) → (∀ H2, Kept None H' H2 → R (p i) H2) → tt [x0, x1, some (.int (i : Int)), some (.ref T)] H' R)
    (q : ∀ H', Kept None H1 H' → H' D = some (.lst (nums (sel p v))) → Qd H') :
    ∃ W : Nat → Nat → Hp → Prop, (∃ m, W 0 m (upd H1 D (.lst []))) ∧ ∀ i m H, W i m H → ((Ite K L).stop i H ∧ Qd H) ∨
      ((Ite K L).go i H ∧ ∃ Nx : Hp → Prop, (∀ H', Nx H' → ∃ m', m' < m ∧ W (i + 1) m' H') ∧ ∀ x H', (Ite K L).yld i H x H' → gTup K 2 (gCons (gName 2) (gCons (gName 3) gNil)) x (wipe [x0, x1, none, none] [2, 3]) H' fun σ2 H2 => wipe σ2 [2, 3] = wipe [x0, x1, none, none] [2, 3] ∧ tt σ2 H2 fun b H3 =>
        if b = true then tOp rBit (tC (.int 1)) (tVar 2) σ2 H3 fun y H4 => ∃ acc, H4 D = some (.lst acc) ∧ acc.length < sizeLine ∧ Nx (upd H4 D (.lst (acc ++ [y]))) else Nx H3) := by
  obtain ⟨ts, e1, e2, e3⟩ := hL.ex
  refine lc_it (walk_enum (K := K) (a := L) (xs := ts.map V.ref)) (fun i H' => Kept None H1 H' ∧ H' D = some (.lst (nums (sel p i)))) ⟨Kept.refl.new hD, upd_same⟩ (fun i H' _ h => SqL.of (h.1.lst e2 (fun z => z))) (fun i x H' H2 hi h y => ?_) (fun H' h => ?_)
  · obtain ⟨k1, eD⟩ := h
    obtain ⟨T, a', x', rfl, hT, rfl, ea, ex⟩ := y
    cases ea
    rw [List.length_map] at hi
    have ex : (ts.map V.ref)[i]? = some x' := ex
    rw [List.getElem?_map, List.getElem?_eq_getElem hi] at ex
    cases ex
    have et := e3 i _ (List.getElem?_eq_getElem hi)
    have k2 : Kept None H1 (upd H' T (.tup [.int (i : Int), .ref ts[i]])) := k1.new (k1.free hT)
    have eD2 : upd H' T (.tup [.int (i : Int), .ref ts[i]]) D = some (.lst (nums (sel p i))) := by rw [upd_ne (ne_of_none eD hT)]; exact eD
    refine ⟨T, _, rfl, SqT.of upd_same, rfl, .int (i : Int), [.ref ts[i]], rfl, .ref ts[i], [], rfl, rfl, ?_⟩
    generalize upd H' T (.tup [.int (i : Int), .ref ts[i]]) = H3 at k2 eD2 ⊢
    refine ⟨rfl, htt i ts[i] H3 _ (by omega) (k2.lst et (fun z => z)) (fun H4 k4 => ?_)⟩
    have eD4 := k4.lst eD2 (fun z => z)
    have k5 := k2.trans k4
    cases hp : p i with
    | true =>
      refine iteT ⟨.int (i : Int), rfl, i, rfl, rfl, by omega, nums (sel p i), eD4, ?_, k5.new hD, ?_⟩
      · have := sel_len p i
        unfold nums
        rw [List.length_map, sizeLine_eq]; omega
      · rw [upd_same, sel_succ, if_pos hp]
        unfold nums
        rw [List.map_append]; rfl
    | false =>
      refine iteF ⟨k5, ?_⟩
      rw [sel_succ, if_neg (by rw [hp]; exact Bool.false_ne_true)]
      exact eD4
  · obtain ⟨k1, eD⟩ := h
    rw [List.length_map, e1] at eD
    exact q H' k1 eD
abbrev sLFacts : Stmt := top 34
theorem scLFacts : FnScope ["bits", "zeros", "k", "some"] ["bits"] (defScope sLFacts) := ⟨rfl, rfl, rfl, by decide +kernel, rfl, by decide +kernel, by decide +kernel⟩
def spLFacts (K : PySem.W.Frag) : Sp := fun vs H Q _ => ∃ (L : Addr) (v : Nat) (f : F2), vs = [.ref L] ∧ v ≤ 100 ∧ Fc v f ∧ BL H L v f ∧ Gives K H Q f
theorem eq_all : ∀ l m : List Nat, PyData.eqvAll (l.map fun n : Nat => PyData.int (n : Int)) (m.map fun n : Nat => PyData.int (n : Int)) = decide (l = m)
  | [], [] => rfl
  | [], _ :: _ => rfl
  | _ :: _, [] => rfl
  | x :: l, y :: m => by
    show (PyData.eqv (PyData.int (x : Int)) (PyData.int (y : Int)) && PyData.eqvAll (l.map fun n : Nat => PyData.int (n : Int)) (m.map fun n : Nat => PyData.int (n : Int))) = _
    rw [eq_all l m, show PyData.eqv (PyData.int (x : Int)) (PyData.int (y : Int)) = ((x : Int) == (y : Int)) from rfl]
    by_cases h : x = y
    · subst h
      simp
    · have h2 : ¬ (x : Int) = (y : Int) := fun z => h (by omega)
      simp [h, h2]
theorem eq_list {l m : List Nat} : PyData.eqv (numsD l) (numsD m) = decide (l = m) := eq_all l m
section
variable {P : Program} {w : World} {K : PySem.W.Frag} {mg : PySem.Str → Option Value} {base : Heap} {f : Addr} {fd : FuncData}
theorem ok_lfacts (F : FnP K "_law_facts" sLFacts f fd) (m_sum : mg "sum" = none) (m_enumerate : mg "enumerate" = none) : FnOk P w K mg base CX0 1 f fd ["bits"] (spLFacts K) := by
  refine F.ok (k := 0) scLFacts (fun vs H Q E h => ?_) (fun cdv A outer s H vs Q E hr h => ?_)
  · obtain ⟨L, v, g, rfl, _⟩ := h
    rfl
  · obtain ⟨L, v, g, rfl, hv, c, hL, q⟩ := h
    refine ⟨_, PSs.nox (pss_cons (ps_set (i := 1) scLFacts.nd rfl (Or.inl rfl) (pe_callB (cr_sumE rfl) (by rfl) m_sum (by decide +kernel) (pa_cons (pe_lc (own := [("k", 2), ("some", 3)]) (g := gTup K 2 (gCons (gName 2) (gCons (gName 3) gNil))) (tt := tTest (tOp (rEqD K) (tVar 3) (tLst (tCons (tC (.int 0)) tNil)))) (te := tOp rBit (tC (.int 1)) (tVar 2)) rfl scLFacts.nd (pi_enum (by rfl) m_enumerate (pa_cons (pv 0) pa_nil)) (blkOk_by (own := [("k", 2), ("some", 3)]) (N := ["bits", "zeros", "k", "some"]) (sc := defScope sLFacts) (by decide +kernel)) (by exact (fun _ _ _ _ _ => (pg_tup rfl (pgs_cons (pg_name (i := 2) scLFacts.nd rfl (Or.inl rfl)) (pgs_cons (pg_name (i := 3) scLFacts.nd rfl (Or.inl rfl)) pgs_nil))))) (by exact (fun _ _ _ _ _ => (pts_one (pt_cmpR (op_eqD hr.units) (pv 3) (pe_lst (pa_cons pe_int pa_nil)) (nomark _))))) (by exact (fun _ _ _ _ _ => (pe_op n_bit pe_int (pv 2))))) pa_nil)))
    (pss_one (ps_ret (pe_tup (pa_cons (pv 1) (pa_cons (pe_callB (cr_sumE rfl) (by rfl) m_sum (by decide +kernel) (pa_cons (pe_lc (own := [("k", 2), ("some", 3)]) (g := gTup K 2 (gCons (gName 2) (gCons (gName 3) gNil))) (tt := tTest (tOp (rEqD K) (tVar 3) (tLst (tCons (tC (.int 1)) tNil)))) (te := tOp rBit (tC (.int 1)) (tVar 2)) rfl scLFacts.nd (pi_enum (by rfl) m_enumerate (pa_cons (pv 0) pa_nil)) (blkOk_by (own := [("k", 2), ("some", 3)]) (N := ["bits", "zeros", "k", "some"]) (sc := defScope sLFacts) (by decide +kernel)) (by exact (fun _ _ _ _ _ => (pg_tup rfl (pgs_cons (pg_name (i := 2) scLFacts.nd rfl (Or.inl rfl)) (pgs_cons (pg_name (i := 3) scLFacts.nd rfl (Or.inl rfl)) pgs_nil))))) (by exact (fun _ _ _ _ _ => (pts_one (pt_cmpR (op_eqD hr.units) (pv 3) (pe_lst (pa_cons pe_int pa_nil)) (nomark _))))) (by exact (fun _ _ _ _ _ => (pe_op n_bit pe_int (pv 2))))) pa_nil)) pa_nil)))))), ?_⟩
    have b0 : ∀ i, i < v → decide (bs g i = [0]) = B g.1 i := fun i hi => by
      unfold bs
      rcases c.three hi with ⟨h1, h2⟩ | ⟨h1, h2⟩ | ⟨h1, h2, _⟩ <;> simp [h1, h2]
    have b1 : ∀ i, i < v → decide (bs g i = [1]) = B g.2 i := fun i hi => by
      unfold bs
      rcases c.three hi with ⟨h1, h2⟩ | ⟨h1, h2⟩ | ⟨h1, h2, _⟩ <;> simp [h1, h2]
    obtain ⟨ts, _, t2, _⟩ := hL.ex
    refine ⟨.ref L, rfl, L, ts.map V.ref, rfl, SqL.of t2, fun D hD => sum_bl hD (p := fun i => decide (bs g i = [0])) hv hL (fun i T H2 R hi et hR => ?_) (fun H2 k2 eD => ?_)⟩
    · refine ⟨.ref T, rfl, (show 1 ≤ sizeLine by decide), fun t ht => ⟨numsD (bs g i), numsD [0], .lst (SqL.of (by rw [upd_ne (ne_of_none et ht)]; exact et)) (dpNums _), .lst (SqL.of upd_same) (dpNums [0]), nums_shaped _, nums_shaped _, _, rfl, ?_⟩⟩
      rw [eq_list]
      exact hR _ (Kept.refl.new ht)
    refine ⟨D, sel _ v, g.1, rfl, eD, sel_sum _ v _ c.hz (fun i hi => (b0 i hi).symm), _, rfl, ?_⟩
    have hL2 := hL.kept k2 (fun _ z => z)
    obtain ⟨ts', _, t2', _⟩ := hL2.ex
    refine ⟨.ref L, rfl, L, ts'.map V.ref, rfl, SqL.of t2', fun D2 hD2 => sum_bl hD2 (p := fun i => decide (bs g i = [1])) hv hL2 (fun i T H3 R hi et hR => ?_) (fun H3 k3 eD3 => ?_)⟩
    · refine ⟨.ref T, rfl, (show 1 ≤ sizeLine by decide), fun t ht => ⟨numsD (bs g i), numsD [1], .lst (SqL.of (by rw [upd_ne (ne_of_none et ht)]; exact et)) (dpNums _), .lst (SqL.of upd_same) (dpNums [1]), nums_shaped _, nums_shaped _, _, rfl, ?_⟩⟩
      rw [eq_list]
      exact hR _ (Kept.refl.new ht)
    refine ⟨D2, sel _ v, g.2, rfl, eD3, sel_sum _ v _ c.ho (fun i hi => (b1 i hi).symm), (show 2 ≤ sizeLine by decide), fun t ht => ?_⟩
    exact q t _ ((k2.trans k3).new ((k2.trans k3).free ht)) (SqT.of upd_same)
end
end K12

set_option Elab.async false
set_option linter.all false
set_option maxRecDepth 100000
set_option maxHeartbeats 4000000
namespace K12
open PySem PySem.Spec PyProof.Rows L2
/-! ### bits drawn -/
def okB (b : List Nat) : Prop := b = [0] ∨ b = [1] ∨ b = [0, 1]
theorem b_high {x u i : Nat} (hx : x < 2 ^ i) (j : Nat) : B (x + u * 2 ^ i) j = if j < i then B x j else B u (j - i) := by
  rw [show x + u * 2 ^ i = 2 ^ i * u + x by rw [Nat.mul_comm, Nat.add_comm]]
  exact Nat.testBit_two_pow_mul_add u hx j
theorem grow {z o i : Nat} (hz : z < 2 ^ i) (ho : o < 2 ^ i) (no : z &&& o = 0) {b : List Nat} (hb : okB b) : ∃ z' o', z' < 2 ^ (i + 1) ∧ o' < 2 ^ (i + 1) ∧ z' &&& o' = 0 ∧ (∀ j, j < i → bs (z', o') j = bs (z, o) j) ∧ bs (z', o') i = b := by
  have main : ∀ u t : Nat, u ≤ 1 → t ≤ 1 → u &&& t = 0 → (z + u * 2 ^ i < 2 ^ (i + 1) ∧ o + t * 2 ^ i < 2 ^ (i + 1) ∧ (z + u * 2 ^ i) &&& (o + t * 2 ^ i) = 0 ∧ (∀ j, j < i → bs (z + u * 2 ^ i, o + t * 2 ^ i) j = bs (z, o) j)) := fun u t hu ht hut => by
    have p2 : 2 ^ (i + 1) = 2 * 2 ^ i := Nat.pow_succ'
    have m1 : u * 2 ^ i ≤ 1 * 2 ^ i := Nat.mul_le_mul_right _ hu
    have m2 : t * 2 ^ i ≤ 1 * 2 ^ i := Nat.mul_le_mul_right _ ht
    refine ⟨by omega, by omega, b_ext fun j => ?_, fun j hj => ?_⟩
    · unfold B
      rw [Nat.testBit_and, Nat.zero_testBit, show (z + u * 2 ^ i).testBit j = _ from b_high hz j, show (o + t * 2 ^ i).testBit j = _ from b_high ho j]
      by_cases q : j < i
      · rw [if_pos q, if_pos q]
        have e := congrArg (fun n => n.testBit j) no
        simp only [Nat.testBit_and, Nat.zero_testBit] at e
        exact e
      · rw [if_neg q, if_neg q]
        have e := congrArg (fun n => n.testBit (j - i)) hut
        simp only [Nat.testBit_and, Nat.zero_testBit] at e
        exact e
    · unfold bs
      dsimp only
      rw [b_high hz, b_high ho, if_pos hj, if_pos hj]
  have at_i : ∀ u t : Nat, bs (z + u * 2 ^ i, o + t * 2 ^ i) i = if B u 0 = true then [0] else if B t 0 = true then [1] else [0, 1] := fun u t => by
    unfold bs
    dsimp only
    rw [b_high hz, b_high ho, if_neg (Nat.lt_irrefl i), if_neg (Nat.lt_irrefl i), Nat.sub_self]
  rcases hb with rfl | rfl | rfl
  · obtain ⟨a1, a2, a3, a4⟩ := main 1 0 (by decide) (by decide) (by decide)
    exact ⟨_, _, a1, a2, a3, a4, at_i 1 0⟩
  · obtain ⟨a1, a2, a3, a4⟩ := main 0 1 (by decide) (by decide) (by decide)
    exact ⟨_, _, a1, a2, a3, a4, at_i 0 1⟩
  · obtain ⟨a1, a2, a3, a4⟩ := main 0 0 (by decide) (by decide) (by decide)
    exact ⟨_, _, a1, a2, a3, a4, at_i 0 0⟩
theorem ok_one {n : Nat} (h : n ≤ 1) : okB [n] := by
  rcases (show n = 0 ∨ n = 1 by omega) with rfl | rfl
  · exact .inl rfl
  · exact .inr (.inl rfl)
abbrev sLBits : Stmt := top 33
theorem scLBits : FnScope ["draw", "wide", "way", "at", "side", "word", "found", "k", "bit"] ["draw", "wide"] (defScope sLBits) := ⟨rfl, rfl, rfl, by decide +kernel, rfl, by decide +kernel, by decide +kernel⟩
def spLBits : Sp := fun vs H Q _ => ∃ (d c : Addr) (ns : List Int) (n v : Nat), vs = [.ref d, .int (v : Int)] ∧ Dr H d c ns n ∧ n ≤ 100000 ∧ 1 ≤ v ∧ v ≤ 12 ∧
  ∀ (L : Addr) (f : F2) H', Fc v f → H L = none → Kept (At d) H H' → Dr H' d c ns (n + 20) → BL H' L v f → Q (.ref L) H'
section
variable {P : Program} {w : World} {K : PySem.W.Frag} {mg : PySem.Str → Option Value} {base : Heap} {f fN : Addr} {fd fdN : FuncData}
theorem ok_lbits (F : FnP K "_law_bits" sLBits f fd) (GLNext : FnOk P w K mg base CX0 2 fN fdN ["draw", "many"] spNext) (bLNext : Binds K fdN ["draw", "many"] []) (kLNext : PySem.W.keepIn K (.ref fN) = true) (gLNext : mg "_law_next" = some (.ref fN))
    (m_range : mg "range" = none) : FnOk P w K mg base CX0 3 f fd ["draw", "wide"] spLBits := by
  refine F.ok (k := 2) scLBits (fun vs H Q E h => ?_) (fun cdv A outer s H vs Q E hr h => ?_)
  · obtain ⟨d, c, ns, n, v, rfl, _⟩ := h
    rfl
  · obtain ⟨d, c, ns, n, v, rfl, D, hn, w1, w2, q⟩ := h
    refine ⟨_, PSs.nox (pss_cons (ps_par3 (i := 2) (j := 3) (l := 4) (by rfl) scLBits.nd rfl rfl rfl (by decide) (by decide) (by decide) rfl rfl rfl (pa_cons (pe_call GLNext hr (by rfl) gLNext kLNext bLNext .nil pass0 (pa_cons (pv 0) (pa_cons pe_int pa_nil))) (pa_cons (pe_call GLNext hr (by rfl) gLNext kLNext bLNext .nil pass0 (pa_cons (pv 0) (pa_cons (pv 1) pa_nil))) (pa_cons (pe_call GLNext hr (by rfl) gLNext kLNext bLNext .nil pass0 (pa_cons (pv 0) (pa_cons pe_int pa_nil))) pa_nil))) (by rfl))
    (pss_cons (ps_set (i := 5) scLBits.nd rfl (Or.inl rfl) (pe_call GLNext hr (by rfl) gLNext kLNext bLNext .nil pass0 (pa_cons (pv 0) (pa_cons (pe_op n_bit pe_int (pv 1)) pa_nil))))
    (pss_cons (ps_set (i := 6) scLBits.nd rfl (Or.inl rfl) (pe_lst pa_nil))
    (pss_cons (ps_for PassesOwn.never rfl (pi_range1 rfl m_range (pa_cons (pv 1) pa_nil)) (pg_name (i := 7) scLBits.nd rfl (Or.inl rfl))
      (pss_cons (ps_set (i := 8) scLBits.nd rfl (Or.inl rfl) (pe_op n_and (pe_op n_shr (pv 5) (pv 7)) pe_int))
      (pss_one (ps_if (pt_cmpR n_eq (pv 2) pe_int (nomark _))
        (pss_one (ps_expr (pe_bm PySem.F.plainAttrs_list PySem.F.slot_list_append PySem.F.type_list_append mt_append (pv 6) (pa_cons (pe_ix ix_list (pe_lst (pa_cons (pe_lst (pa_cons pe_int pa_nil)) (pa_cons (pe_lst (pa_cons pe_int pa_nil)) (pa_cons (pe_lst (pa_cons pe_int (pa_cons pe_int pa_nil))) pa_nil)))) (pe_call GLNext hr (by rfl) gLNext kLNext bLNext .nil pass0 (pa_cons (pv 0) (pa_cons pe_int pa_nil))) (fun _ _ => rfl)) pa_nil))))
        (pss_one (ps_if (pt_cmpR n_eq (pv 2) pe_int (nomark _))
          (pss_one (ps_expr (pe_bm PySem.F.plainAttrs_list PySem.F.slot_list_append PySem.F.type_list_append mt_append (pv 6) (pa_cons (pe_lst (pa_cons (pv 8) pa_nil)) pa_nil))))
          (pss_one (ps_if (pt_cmpR n_eq (pv 2) pe_int (nomark _))
            (pss_one (ps_expr (pe_bm PySem.F.plainAttrs_list PySem.F.slot_list_append PySem.F.type_list_append mt_append (pv 6) (pa_cons (pe_lst (pa_cons pe_int (pa_cons pe_int pa_nil))) pa_nil))))
            (pss_one (ps_if (pt_cmpR n_eq (pv 2) pe_int (nomark _))
              (pss_one (ps_expr (pe_bm PySem.F.plainAttrs_list PySem.F.slot_list_append PySem.F.type_list_append mt_append (pv 6) (pa_cons (pe_ifExp (pt_cmpR n_eq (pv 7) (pv 3) (nomark _)) (pe_lst (pa_cons pe_int (pa_cons pe_int pa_nil))) (pe_lst (pa_cons (pv 4) pa_nil))) pa_nil))))
              (pss_one (ps_if (pt_cmpR n_eq (pv 2) pe_int (nomark _))
                (pss_one (ps_expr (pe_bm PySem.F.plainAttrs_list PySem.F.slot_list_append PySem.F.type_list_append mt_append (pv 6) (pa_cons (pe_ifExp (pt_cmpR n_lt (pv 7) (pv 3) (nomark _)) (pe_lst (pa_cons (pv 8) pa_nil)) (pe_lst (pa_cons pe_int (pa_cons pe_int pa_nil)))) pa_nil))))
                (pss_one (ps_expr (pe_bm PySem.F.plainAttrs_list PySem.F.slot_list_append PySem.F.type_list_append mt_append (pv 6) (pa_cons (pe_ifExp (pt_cmpR n_gt (pv 7) (pv 3) (nomark _)) (pe_lst (pa_cons (pv 4) pa_nil)) (pe_lst (pa_cons pe_int (pa_cons pe_int pa_nil)))) pa_nil))))))))))))))))
    (pss_one (ps_ret (pv 6))))))), ?_⟩
    have tl : 2 ^ v ≤ 4096 := pow_bound w2
    have tp := Nat.two_pow_pos v
    refine ⟨.ref d, rfl, d, c, ns, n, 6, rfl, D, by omega, by omega, by omega, fun way H1 a0 a1 k1 D1 => ?_⟩
    obtain ⟨way, rfl⟩ := Int.eq_ofNat_of_zero_le a0
    refine ⟨.ref d, rfl, .int v, rfl, d, c, ns, n + 1, v, rfl, D1, by omega, by omega, by omega, fun at_ H2 b0 b1 k2 D2 => ?_⟩
    obtain ⟨at_, rfl⟩ := Int.eq_ofNat_of_zero_le b0
    refine ⟨.ref d, rfl, d, c, ns, n + 1 + 1, 2, rfl, D2, by omega, by omega, by omega, fun sd H3 c0 c1 k3 D3 => ?_⟩
    obtain ⟨sd, rfl⟩ := Int.eq_ofNat_of_zero_le c0
    refine ⟨_, _, _, rfl, ?_⟩
    refine ⟨.ref d, rfl, .int v, rfl, v, rfl, rfl, by omega, d, c, ns, n + 1 + 1 + 1, ((2 ^ v : Nat) : Int), rfl, D3, by omega, by generalize 2 ^ v = u at tl tp ⊢; omega, by generalize 2 ^ v = u at tl tp ⊢; omega, fun wd H4 d0 d1 k4 D4 => ?_⟩
    obtain ⟨wd, rfl⟩ := Int.eq_ofNat_of_zero_le d0
    refine ⟨(show 0 ≤ sizeLine by decide), fun L hL => ?_⟩
    have kA := ((k1.trans k2).trans k3).trans k4
    have hLH : H L = none := At.free kA D4 hL
    have hLd := D4.apart hL
    have hLc := D4.apartC hL
    have e4 : upd H4 L (.lst []) L = some (.lst []) := upd_same
    have D5 : Dr (upd H4 L (.lst [])) d c ns (n + 4) := D4.new hL
    have kL : Kept (At2 d L) H4 (upd H4 L (.lst [])) := Kept.refl.upd (.inr rfl)
    generalize upd H4 L (.lst []) = H5 at e4 D5 kL ⊢
    refine ⟨.int v, rfl, v, rfl, by omega, by omega, ?_⟩
    refine for_range (lo := 0) (n := v) (fun i σ H' => ∃ (z o : Nat) (ts : List Addr) (y7 y8 : Option V), σ = [some (.ref d), some (.int (v : Int)), some (.int (way : Int)), some (.int (at_ : Int)), some (.int (sd : Int)), some (.int (wd : Int)), some (.ref L), y7, y8] ∧ z < 2 ^ i ∧ o < 2 ^ i ∧ z &&& o = 0 ∧ Kept (At2 d L) H4 H' ∧ Dr H' d c ns (n + 4 + i) ∧ H' L = some (.lst (ts.map V.ref)) ∧ ts.length = i ∧ ∀ (j : Nat) (t : Addr), ts[j]? = some t → H' t = some (.lst (nums (bs (z, o) j))) ∧ t ≠ L)
      ⟨0, 0, [], none, none, rfl, by decide, by decide, rfl, kL, D5, e4, rfl, fun j t z => by cases z⟩ (fun i σ H6 hi h => ?_) (fun σ H6 h => ?_)
    · obtain ⟨z, o, ts, y7, y8, rfl, hz, ho, no, k6, D6, eL, el, et⟩ := h
      have si : (0 : Int) + (i : Int) = (i : Int) := Int.zero_add _
      have fin : ∀ (H7 : Hp) (T : Addr) (b : List Nat), okB b → H6 T = none → Kept (At d) H6 H7 → Dr H7 d c ns (n + 4 + (i + 1)) → H7 T = some (.lst (nums b)) → H7 L = some (.lst (ts.map V.ref)) ∧ (ts.map V.ref).length < sizeLine ∧ ∃ (z' o' : Nat) (ts' : List Addr), z' < 2 ^ (i + 1) ∧ o' < 2 ^ (i + 1) ∧ z' &&& o' = 0 ∧ Kept (At2 d L) H4 (upd H7 L (.lst (ts.map V.ref ++ [.ref T]))) ∧ Dr (upd H7 L (.lst (ts.map V.ref ++ [.ref T]))) d c ns (n + 4 + (i + 1)) ∧ upd H7 L (.lst (ts.map V.ref ++ [.ref T])) L = some (.lst (ts'.map V.ref)) ∧ ts'.length = i + 1 ∧ ∀ (j : Nat) (t : Addr), ts'[j]? = some t → upd H7 L (.lst (ts.map V.ref ++ [.ref T])) t = some (.lst (nums (bs (z', o') j))) ∧ t ≠ L := fun H7 T b hb hT k7 D7 eT => by
        have eL7 := k7.lst eL hLd
        have TL : T ≠ L := fun y => by
          rw [y, eL] at hT
          cases hT
        obtain ⟨z', o', g1, g2, g3, g4, g5⟩ := grow hz ho no hb
        refine ⟨eL7, by rw [List.length_map, el, sizeLine_eq]; omega, z', o', ts ++ [T], g1, g2, g3, (k6.trans (k7.weak fun b hb => .inl hb)).upd (.inr rfl), D7.keep hLd hLc, by rw [upd_same, List.map_append]; rfl, by rw [List.length_append, el]; rfl, fun j t zt => ?_⟩
        by_cases hj : j < ts.length
        · rw [List.getElem?_append_left hj] at zt
          obtain ⟨a1, a2⟩ := et j t zt
          have td : ¬ t = d := fun y => by
            obtain ⟨_, _, _, e, _⟩ := D6.at_
            rw [y, e] at a1
            cases a1
          rw [upd_ne a2, g4 j (by omega)]
          exact ⟨k7.lst a1 td, a2⟩
        · rw [List.getElem?_append_right (by omega)] at zt
          have hj0 : j - ts.length = 0 := by
            have := (List.getElem?_eq_some_iff.mp zt).1
            simp at this; omega
          rw [hj0] at zt
          cases zt
          obtain rfl : j = i := by omega
          rw [upd_ne TL, g5]
          exact ⟨eT, TL⟩
      have lst1 : ∀ (b : List Nat), okB b → ∀ T, H6 T = none → _ := fun b hb T hT => fin (upd H6 T (.lst (nums b))) T b hb hT (Kept.refl.new hT) ((D6.new hT).more (by omega)) upd_same
      refine ⟨.int (wd : Int), rfl, .int (0 + (i : Int)), rfl, wd, i, rfl, by rw [si], wd >>> i, 1, rfl, rfl, ?_⟩
      have bl : (wd >>> i) &&& 1 ≤ 1 := Nat.and_le_right
      refine ⟨_, rfl, way, 0, rfl, rfl, _, rfl, ite2 (fun _ => ?_) (fun _ => ?_)⟩
      · refine ⟨.ref L, rfl, .inl ⟨rfl, _, SqL.of eL⟩, (show 1 ≤ sizeLine by decide), fun P0 h0 => ⟨(show 1 ≤ sizeLine by decide), fun P1 h1 => ⟨(show 2 ≤ sizeLine by decide), fun P2 h2 => ⟨(show 3 ≤ sizeLine by decide), fun O hO => ?_⟩⟩⟩⟩
        have kQ : Kept (At d) H6 (upd (upd (upd (upd H6 P0 (.lst [.int 0])) P1 (.lst [.int 1])) P2 (.lst [.int 0, .int 1])) O (.lst [.ref P0, .ref P1, .ref P2])) := (((Kept.refl.nu D6 h0).nu (D6.new h0) h1).nu ((D6.new h0).new h1) h2).nu (((D6.new h0).new h1).new h2) hO
        have DQ : Dr (upd (upd (upd (upd H6 P0 (.lst [.int 0])) P1 (.lst [.int 1])) P2 (.lst [.int 0, .int 1])) O (.lst [.ref P0, .ref P1, .ref P2])) d c ns (n + 4 + i) := (((D6.new h0).new h1).new h2).new hO
        have f2 : ∀ {b : Addr}, upd H6 P0 (.lst [.int 0]) b = none → H6 b = none := fun {b} z => (Kept.refl (D := None) (H := H6)).new h0 |>.free z
        have f1 : H6 P1 = none := f2 h1
        have f3 : H6 P2 = none := f2 (((Kept.refl (D := None) (H := upd H6 P0 (.lst [.int 0]))).new h1).free h2)
        have n01 : P0 ≠ P1 := fun z => by rw [← z, upd_same] at h1; cases h1
        have e2 : upd (upd H6 P0 (.lst [.int 0])) P1 (.lst [.int 1]) P0 = some (.lst (nums [0])) := by rw [upd_ne n01, upd_same]; rfl
        have e3 : upd (upd H6 P0 (.lst [.int 0])) P1 (.lst [.int 1]) P1 = some (.lst (nums [1])) := by rw [upd_same]; rfl
        have n02 : P0 ≠ P2 := ne_of_none e2 h2
        have n12 : P1 ≠ P2 := ne_of_none e3 h2
        have g0 : upd (upd (upd H6 P0 (.lst [.int 0])) P1 (.lst [.int 1])) P2 (.lst [.int 0, .int 1]) P0 = some (.lst (nums [0])) := by rw [upd_ne n02]; exact e2
        have g1 : upd (upd (upd H6 P0 (.lst [.int 0])) P1 (.lst [.int 1])) P2 (.lst [.int 0, .int 1]) P1 = some (.lst (nums [1])) := by rw [upd_ne n12]; exact e3
        have g2 : upd (upd (upd H6 P0 (.lst [.int 0])) P1 (.lst [.int 1])) P2 (.lst [.int 0, .int 1]) P2 = some (.lst (nums [0, 1])) := by rw [upd_same]; rfl
        have r0 := sql_new (K := K) (o := .lst [.ref P0, .ref P1, .ref P2]) (SqL.of g0) hO
        have q0 : upd (upd (upd (upd H6 P0 (.lst [.int 0])) P1 (.lst [.int 1])) P2 (.lst [.int 0, .int 1])) O (.lst [.ref P0, .ref P1, .ref P2]) P0 = some (.lst (nums [0])) := by rw [upd_ne (ne_of_none g0 hO)]; exact g0
        have q1 : upd (upd (upd (upd H6 P0 (.lst [.int 0])) P1 (.lst [.int 1])) P2 (.lst [.int 0, .int 1])) O (.lst [.ref P0, .ref P1, .ref P2]) P1 = some (.lst (nums [1])) := by rw [upd_ne (ne_of_none g1 hO)]; exact g1
        have q2 : upd (upd (upd (upd H6 P0 (.lst [.int 0])) P1 (.lst [.int 1])) P2 (.lst [.int 0, .int 1])) O (.lst [.ref P0, .ref P1, .ref P2]) P2 = some (.lst (nums [0, 1])) := by rw [upd_ne (ne_of_none g2 hO)]; exact g2
        have qO : upd (upd (upd (upd H6 P0 (.lst [.int 0])) P1 (.lst [.int 1])) P2 (.lst [.int 0, .int 1])) O (.lst [.ref P0, .ref P1, .ref P2]) O = some (.lst [.ref P0, .ref P1, .ref P2]) := upd_same
        have pd : ∀ {b : Addr} {xs : List V}, upd (upd (upd (upd H6 P0 (.lst [.int 0])) P1 (.lst [.int 1])) P2 (.lst [.int 0, .int 1])) O (.lst [.ref P0, .ref P1, .ref P2]) b = some (.lst xs) → ¬ b = d := fun {b xs} e y => by
          obtain ⟨_, _, _, e', _⟩ := DQ.at_
          rw [y, e'] at e
          cases e
        clear r0 g0 g1 g2 e2 e3
        refine ⟨.ref d, rfl, d, c, ns, n + 4 + i, 3, rfl, DQ, by omega, by omega, by omega, fun r H7 f0' f1' k7 D7 => ?_⟩
        obtain ⟨r, rfl⟩ := Int.eq_ofNat_of_zero_le f0'
        obtain ⟨T, b, hb, hT, eT, hat⟩ : ∃ (T : Addr) (b : List Nat), okB b ∧ H6 T = none ∧ H7 T = some (.lst (nums b)) ∧ [V.ref P0, .ref P1, .ref P2][r]? = some (.ref T) := by
          rcases (show r = 0 ∨ r = 1 ∨ r = 2 by omega) with rfl | rfl | rfl
          · exact ⟨P0, [0], .inl rfl, h0, k7.lst q0 (pd q0), rfl⟩
          · exact ⟨P1, [1], .inr (.inl rfl), f1, k7.lst q1 (pd q1), rfl⟩
          · exact ⟨P2, [0, 1], .inr (.inr rfl), f3, k7.lst q2 (pd q2), rfl⟩
        obtain ⟨x1, x2, z', o', ts', x3⟩ := fin H7 T b hb hT (kQ.trans k7) (D7.more (by omega)) eT
        exact ⟨O, _, r, .ref T, rfl, rfl, SqL.of (k7.lst qO (pd qO)), atI_nat hat, L, _, .ref T, rfl, rfl, x1, x2, z', o', ts', _, _, rfl, x3⟩
      · refine ⟨_, rfl, way, 1, rfl, rfl, _, rfl, ite2 (fun _ => ?_) (fun _ => ?_)⟩
        · refine ⟨.ref L, rfl, .inl ⟨rfl, _, SqL.of eL⟩, _, rfl, (show 1 ≤ sizeLine by decide), fun T hT => ?_⟩
          obtain ⟨x1, x2, z', o', ts', x3⟩ := lst1 _ (ok_one bl) T hT
          exact ⟨L, _, .ref T, rfl, rfl, x1, x2, z', o', ts', _, _, rfl, x3⟩
        · refine ⟨_, rfl, way, 2, rfl, rfl, _, rfl, ite2 (fun _ => ?_) (fun _ => ?_)⟩
          · refine ⟨.ref L, rfl, .inl ⟨rfl, _, SqL.of eL⟩, (show 2 ≤ sizeLine by decide), fun T hT => ?_⟩
            obtain ⟨x1, x2, z', o', ts', x3⟩ := lst1 [0, 1] (.inr (.inr rfl)) T hT
            exact ⟨L, _, .ref T, rfl, rfl, x1, x2, z', o', ts', _, _, rfl, x3⟩
          · have both : ∀ T, H6 T = none → _ := fun T hT => lst1 [0, 1] (.inr (.inr rfl)) T hT
            have side : ∀ T, H6 T = none → _ := fun T hT => lst1 [sd] (ok_one (by omega)) T hT
            have its : ∀ T, H6 T = none → _ := fun T hT => lst1 [(wd >>> i) &&& 1] (ok_one bl) T hT
            refine ⟨_, rfl, way, 3, rfl, rfl, _, rfl, ite2 (fun _ => ?_) (fun _ => ?_)⟩
            · refine ⟨.ref L, rfl, .inl ⟨rfl, _, SqL.of eL⟩, .int (0 + (i : Int)), rfl, .int (at_ : Int), rfl, i, at_, by rw [si], rfl, _, rfl, ite2 (fun _ => ?_) (fun _ => ?_)⟩
              · refine ⟨(show 2 ≤ sizeLine by decide), fun T hT => ?_⟩
                obtain ⟨x1, x2, z', o', ts', x3⟩ := both T hT
                exact ⟨L, _, .ref T, rfl, rfl, x1, x2, z', o', ts', _, _, rfl, x3⟩
              · refine ⟨.int (sd : Int), rfl, (show 1 ≤ sizeLine by decide), fun T hT => ?_⟩
                obtain ⟨x1, x2, z', o', ts', x3⟩ := side T hT
                exact ⟨L, _, .ref T, rfl, rfl, x1, x2, z', o', ts', _, _, rfl, x3⟩
            · refine ⟨_, rfl, way, 4, rfl, rfl, _, rfl, ite2 (fun _ => ?_) (fun _ => ?_)⟩
              · refine ⟨.ref L, rfl, .inl ⟨rfl, _, SqL.of eL⟩, .int (0 + (i : Int)), rfl, .int (at_ : Int), rfl, i, at_, by rw [si], rfl, _, rfl, ite2 (fun _ => ?_) (fun _ => ?_)⟩
                · refine ⟨_, rfl, (show 1 ≤ sizeLine by decide), fun T hT => ?_⟩
                  obtain ⟨x1, x2, z', o', ts', x3⟩ := its T hT
                  exact ⟨L, _, .ref T, rfl, rfl, x1, x2, z', o', ts', _, _, rfl, x3⟩
                · refine ⟨(show 2 ≤ sizeLine by decide), fun T hT => ?_⟩
                  obtain ⟨x1, x2, z', o', ts', x3⟩ := both T hT
                  exact ⟨L, _, .ref T, rfl, rfl, x1, x2, z', o', ts', _, _, rfl, x3⟩
              · refine ⟨.ref L, rfl, .inl ⟨rfl, _, SqL.of eL⟩, .int (0 + (i : Int)), rfl, .int (at_ : Int), rfl, i, at_, by rw [si], rfl, _, rfl, ite2 (fun _ => ?_) (fun _ => ?_)⟩
                · refine ⟨.int (sd : Int), rfl, (show 1 ≤ sizeLine by decide), fun T hT => ?_⟩
                  obtain ⟨x1, x2, z', o', ts', x3⟩ := side T hT
                  exact ⟨L, _, .ref T, rfl, rfl, x1, x2, z', o', ts', _, _, rfl, x3⟩
                · refine ⟨(show 2 ≤ sizeLine by decide), fun T hT => ?_⟩
                  obtain ⟨x1, x2, z', o', ts', x3⟩ := both T hT
                  exact ⟨L, _, .ref T, rfl, rfl, x1, x2, z', o', ts', _, _, rfl, x3⟩
    · obtain ⟨z, o, ts, y7, y8, rfl, hz, ho, no, k6, D6, eL, el, et⟩ := h
      exact ⟨.ref L, rfl, q L (z, o) H6 ⟨hz, ho, no⟩ hLH (kA.drop hLH k6) (D6.more (by omega)) ⟨ts, el, eL, fun j t e => (et j t e).1⟩⟩
end
end K12

set_option Elab.async false
set_option linter.all false
set_option maxRecDepth 100000
set_option maxHeartbeats 4000000
namespace K12
open PySem PySem.Spec PyProof.Rows L2
/-! ### the sum, bit by bit with what is carried -/
def mo (b : Bool) (l r c : Nat) : Nat := if b = true then goOn l r c else under l r c
def car (b : Bool) (y z : F2) (k : Nat) : List Nat := if b = true then carr y z 0 k else borr y z k
def sg (b : Bool) : Int := if b = true then 1 else -1
def fOf (w : Nat) (b : Bool) (y z : F2) : F2 := if b = true then fCarried (most w) y z 0 else fDiff (most w) y z
theorem car_zero (b : Bool) (y z : F2) : car b y z 0 = [0] := by cases b <;> rfl
theorem car_succ (b : Bool) (y z : F2) (k : Nat) : car b y z (k + 1) = set01 (all3F (mo b) (bs y k) (bs z k) (car b y z k)) := by cases b <;> rfl
theorem set01_len (l : List Nat) : (set01 l).length ≤ 2 := by
  unfold set01
  rw [List.length_append]
  split <;> split <;> decide
theorem set01_le {l : List Nat} {n : Nat} (h : n ∈ set01 l) : n ≤ 1 := by
  unfold set01 at h
  rcases List.mem_append.mp h with q | q
  · split at q
    · rw [List.mem_singleton.mp q]; decide
    · cases q
  · split at q
    · rw [List.mem_singleton.mp q]; decide
    · cases q
theorem car_len (b : Bool) (y z : F2) (k : Nat) : (car b y z k).length ≤ 2 := by
  cases k with
  | zero => rw [car_zero]; decide
  | succ k => rw [car_succ]; exact set01_len _
theorem car_le {b : Bool} {y z : F2} {k n : Nat} (h : n ∈ car b y z k) : n ≤ 1 := by
  cases k with
  | zero => rw [car_zero] at h; rw [List.mem_singleton.mp h]; decide
  | succ k => rw [car_succ] at h; exact set01_le h
theorem bs_len (f : F2) (k : Nat) : (bs f k).length ≤ 2 := by
  unfold bs
  split
  · decide
  · split <;> decide
theorem bits_of {w : Nat} (b : Bool) {y z : F2} (cy : Fc w y) (cz : Fc w z) {k : Nat} (hk : k < w) : set01 (all3F stay (bs y k) (bs z k) (car b y z k)) = bs (fOf w b y z) k := by
  cases b with
  | true => exact sum_bits cy cz (Nat.zero_le 1) hk
  | false => exact diff_bits cy cz hk
theorem tot_mod {b : Bool} {l r c : Nat} (hl : l ≤ 1) (hr : r ≤ 1) (hc : c ≤ 1) : ((l : Int) + sg b * ((r : Int) + (c : Int))) % 2 = ((stay l r c : Nat) : Int) := by
  rcases (show l = 0 ∨ l = 1 by omega) with rfl | rfl <;> rcases (show r = 0 ∨ r = 1 by omega) with rfl | rfl <;> rcases (show c = 0 ∨ c = 1 by omega) with rfl | rfl <;> cases b <;> decide
theorem tot_mo {b : Bool} {l r c : Nat} (hl : l ≤ 1) (hr : r ≤ 1) (hc : c ≤ 1) : (if (decide (1 < (l : Int) + sg b * ((r : Int) + (c : Int))) || decide ((l : Int) + sg b * ((r : Int) + (c : Int)) < 0)) = true then (1 : Int) else 0) = ((mo b l r c : Nat) : Int) := by
  rcases (show l = 0 ∨ l = 1 by omega) with rfl | rfl <;> rcases (show r = 0 ∨ r = 1 by omega) with rfl | rfl <;> rcases (show c = 0 ∨ c = 1 by omega) with rfl | rfl <;> cases b <;> decide
theorem a3_nil (g : Nat → Nat → Nat → Nat) (rs cs : List Nat) : all3F g [] rs cs = [] := rfl
theorem a3_snoc (g : Nat → Nat → Nat → Nat) (ls rs cs : List Nat) {i l : Nat} (h : ls[i]? = some l) : all3F g (ls.take (i + 1)) rs cs = all3F g (ls.take i) rs cs ++ rs.flatMap fun r => cs.map (g l r) := by
  unfold all3F
  rw [List.take_add_one, h, List.flatMap_append]
  simp
theorem a2_snoc (g : Nat → Nat → Nat) (rs cs : List Nat) {i r : Nat} (h : rs[i]? = some r) : ((rs.take (i + 1)).flatMap fun r => cs.map (g r)) = ((rs.take i).flatMap fun r => cs.map (g r)) ++ cs.map (g r) := by
  rw [List.take_add_one, h, List.flatMap_append]
  simp
theorem a1_snoc (g : Nat → Nat) (cs : List Nat) {i c : Nat} (h : cs[i]? = some c) : (cs.take (i + 1)).map g = (cs.take i).map g ++ [g c] := by
  rw [List.take_add_one, h, List.map_append]; rfl
theorem nums_at {l : List Nat} {i : Nat} {x : V} (h : (nums l)[i]? = some x) : ∃ n, l[i]? = some n ∧ x = .int (n : Int) := by
  unfold nums at h
  rw [List.getElem?_map] at h
  obtain ⟨n, h1, rfl⟩ := Option.map_eq_some_iff.mp h
  exact ⟨n, h1, rfl⟩
theorem nums_len (l : List Nat) : (nums l).length = l.length := List.length_map _
theorem nums_snoc (l : List Nat) (n : Nat) : nums (l ++ [n]) = nums l ++ [.int (n : Int)] := by
  unfold nums
  rw [List.map_append]; rfl
def rModE : R2 := fun x y H Q => ∃ i j k : Int, x = .int i ∧ y = .int j ∧ 0 < j ∧ i % j = k ∧ Q (.int k) H
theorem op_modE {X : Cx} : OpR X (binaryOp .Mod) rModE := by
  intro pins s σ H x y v u Q I rx ry h
  obtain ⟨i, j, k, rfl, rfl, h1, rfl, q⟩ := h
  exact op_mod pins s σ H _ _ v u Q I rx ry ⟨i, j, rfl, rfl, h1, q⟩
/-- two lists that grow, all else stays -/
structure Gr (H1 H' : Hp) (S M : Addr) (a m : List Nat) (N : Nat) : Prop where
  k : Kept (fun b => b = S ∨ b = M) H1 H'
  s : H' S = some (.lst (nums a))
  e : H' M = some (.lst (nums m))
  ne : S ≠ M
  la : a.length ≤ N
  lm : m.length ≤ N
theorem Gr.put {H1 H' : Hp} {S M : Addr} {a m : List Nat} {N : Nat} (g : Gr H1 H' S M a m N) (x y : Nat) : Gr H1 (upd (upd H' S (.lst (nums a ++ [.int (x : Int)]))) M (.lst (nums m ++ [.int (y : Int)]))) S M (a ++ [x]) (m ++ [y]) (N + 1) where
  k := (g.k.upd (.inl rfl)).upd (.inr rfl)
  s := by rw [upd_ne g.ne, upd_same, nums_snoc]
  e := by rw [upd_same, nums_snoc]
  ne := g.ne
  la := by rw [List.length_append]; exact Nat.succ_le_succ g.la
  lm := by rw [List.length_append]; exact Nat.succ_le_succ g.lm
theorem Gr.put2 {H1 H' : Hp} {S M : Addr} {a m : List Nat} {N : Nat} (g : Gr H1 H' S M a m N) (x y : Nat) {t : Int} (ht : t = (y : Int)) : Gr H1 (upd (upd H' S (.lst (nums a ++ [.int (x : Int)]))) M (.lst (nums m ++ [.int t]))) S M (a ++ [x]) (m ++ [y]) (N + 1) := by
  subst ht
  exact g.put x y
theorem Gr.wide {H1 H' : Hp} {S M : Addr} {a m a' m' : List Nat} {N N' : Nat} (g : Gr H1 H' S M a m N) (h : N ≤ N') (ea : a = a') (em : m = m') : Gr H1 H' S M a' m' N' := by
  subst ea em
  exact ⟨g.k, g.s, g.e, g.ne, Nat.le_trans g.la h, Nat.le_trans g.lm h⟩
theorem Gr.lst {H1 H' : Hp} {S M : Addr} {a m : List Nat} {N : Nat} (g : Gr H1 H' S M a m N) {p : Addr} {xs : List V} (h : H1 p = some (.lst xs)) (n1 : p ≠ S) (n2 : p ≠ M) : H' p = some (.lst xs) := g.k.lst h fun q => q.elim n1 n2
abbrev sLSum : Stmt := top 35
theorem scLSum : FnScope ["ones", "others", "sign", "found", "carries", "one", "other", "some", "more", "left", "right", "carry", "total"] ["ones", "others", "sign"] (defScope sLSum) := ⟨rfl, rfl, rfl, by decide +kernel, rfl, by decide +kernel, by decide +kernel⟩
def spLSum : Sp := fun vs H Q _ => ∃ (L R : Addr) (b : Bool) (v : Nat) (y z : F2), vs = [.ref L, .ref R, .int (sg b)] ∧ v ≤ 100 ∧ Fc v y ∧ Fc v z ∧ BL H L v y ∧ BL H R v z ∧ ∀ (p : Addr) (H' : Hp), Kept None H H' → BL H' p v (fOf v b y z) → Q (.ref p) H'
section
variable {P : Program} {w : World} {K : PySem.W.Frag} {mg : PySem.Str → Option Value} {base : Heap} {f : Addr} {fd : FuncData}
theorem ok_lsum (F : FnP K "_law_sum" sLSum f fd) (m_zip : mg "zip" = none) (m_int : mg "int" = none) (m_sorted : mg "sorted" = none) (m_set : mg "set" = none) : FnOk P w K mg base CX0 1 f fd ["ones", "others", "sign"] spLSum := by
  refine F.ok (k := 0) scLSum (fun vs H Q E h => ?_) (fun cdv A outer s H vs Q E hr h => ?_)
  · obtain ⟨L, R, b, v, y, z, rfl, _⟩ := h
    rfl
  · obtain ⟨L, R, b, v, y, z, rfl, hv, cy, cz, hL, hR, q⟩ := h
    refine ⟨_, PSs.nox (pss_cons (ps_par (i := 3) (j := 4) (by rfl) scLSum.nd rfl rfl (by decide) rfl rfl (pa_cons (pe_lst pa_nil) (pa_cons (pe_lst (pa_cons pe_int pa_nil)) pa_nil)) (by rfl))
    (pss_cons (ps_for PassesOwn.never rfl (pi_zip (by rfl) m_zip (pa_cons (pv 0) (pa_cons (pv 1) pa_nil))) (pg_tup rfl (pgs_cons (pg_name (i := 5) scLSum.nd rfl (Or.inl rfl)) (pgs_cons (pg_name (i := 6) scLSum.nd rfl (Or.inl rfl)) pgs_nil)))
      (pss_cons (ps_par (i := 7) (j := 8) (by rfl) scLSum.nd rfl rfl (by decide) rfl rfl (pa_cons (pe_lst pa_nil) (pa_cons (pe_lst pa_nil) pa_nil)) (by rfl))
      (pss_cons (ps_for PassesOwn.never rfl (pi_list (pv 5)) (pg_name (i := 9) scLSum.nd rfl (Or.inl rfl))
        (pss_one (ps_for PassesOwn.never rfl (pi_list (pv 6)) (pg_name (i := 10) scLSum.nd rfl (Or.inl rfl))
          (pss_one (ps_for PassesOwn.never rfl (pi_list (pv 4)) (pg_name (i := 11) scLSum.nd rfl (Or.inl rfl))
            (pss_cons (ps_set (i := 12) scLSum.nd rfl (Or.inl rfl) (pe_op op_add (pv 9) (pe_op op_mul (pv 2) (pe_op op_add (pv 10) (pv 11)))))
            (pss_cons (ps_expr (pe_bm PySem.F.plainAttrs_list PySem.F.slot_list_append PySem.F.type_list_append mt_append (pv 7) (pa_cons (pe_op op_modE (pv 12) pe_int) pa_nil)))
            (pss_one (ps_expr (pe_bm PySem.F.plainAttrs_list PySem.F.slot_list_append PySem.F.type_list_append mt_append (pv 8) (pa_cons (pe_callTy call_int1 (by rfl) m_int (by decide +kernel) (pa_cons (pe_or (pe_cmpR op_gt (pv 12) pe_int (nomark _)) (pe_one (pe_cmpR op_lt (pv 12) pe_int (nomark _)))) pa_nil)) pa_nil)))))))))))
      (pss_cons (ps_expr (pe_bm PySem.F.plainAttrs_list PySem.F.slot_list_append PySem.F.type_list_append mt_append (pv 3) (pa_cons (pe_callB (cr_sortedSet rfl) (by rfl) m_sorted (by decide +kernel) (pa_cons (pe_callTy (cr_setL rfl) (by rfl) m_set (by decide +kernel) (pa_cons (pv 7) pa_nil)) pa_nil)) pa_nil)))
      (pss_one (ps_set (i := 4) scLSum.nd rfl (Or.inl rfl) (pe_callB (cr_sortedSet rfl) (by rfl) m_sorted (by decide +kernel) (pa_cons (pe_callTy (cr_setL rfl) (by rfl) m_set (by decide +kernel) (pa_cons (pv 8) pa_nil)) pa_nil))))))))
    (pss_one (ps_ret (pv 3))))), ?_⟩
    have hsz := sizeLine_eq
    obtain ⟨ls, l1, l2, l3⟩ := hL.ex
    obtain ⟨rs, r1, r2, r3⟩ := hR.ex
    refine ⟨by show 0 ≤ sizeLine; omega, fun F1 hF => ⟨by show 1 ≤ sizeLine; omega, fun C0 hC => ?_⟩⟩
    have CF0 : C0 ≠ F1 := fun e => by rw [e, upd_same] at hC; cases hC
    have k0 : Kept None H (upd (upd H F1 (.lst [])) C0 (.lst [.int 0])) := (Kept.refl.new hF).trans (Kept.refl.new hC)
    have eF0 : upd (upd H F1 (.lst [])) C0 (.lst [.int 0]) F1 = some (.lst []) := by rw [upd_ne CF0.symm, upd_same]
    have eC0 : upd (upd H F1 (.lst [])) C0 (.lst [.int 0]) C0 = some (.lst (nums (car b y z 0))) := by rw [upd_same, car_zero]; rfl
    refine ⟨_, _, rfl, ?_⟩
    generalize upd (upd H F1 (.lst [])) C0 (.lst [.int 0]) = H0 at k0 eF0 eC0 ⊢
    refine ⟨.ref L, rfl, .ref R, rfl, L, R, _, _, rfl, SqL.of (k0.lst l2 fun z => z), SqL.of (k0.lst r2 fun z => z), ?_⟩
    refine RZ.for_zipL (K := K) (xs := ls.map V.ref) (ys := rs.map V.ref) (by rw [List.length_map, List.length_map, l1, r1]) (fun i σ H' => ∃ (C : Addr) (ts : List Addr) (x5 x6 x7 x8 x9 x10 x11 x12 : Option V), σ = [some (.ref L), some (.ref R), some (.int (sg b)), some (.ref F1), some (.ref C), x5, x6, x7, x8, x9, x10, x11, x12] ∧ Kept None H H' ∧ H' F1 = some (.lst (ts.map V.ref)) ∧ ts.length = i ∧
        (∀ (j : Nat) (t : Addr), ts[j]? = some t → H' t = some (.lst (nums (bs (fOf v b y z) j))) ∧ t ≠ F1) ∧ H' C = some (.lst (nums (car b y z i))) ∧ C ≠ F1)
      ⟨C0, [], none, none, none, none, none, none, none, none, rfl, k0, eF0, rfl, fun j t e => by simp at e, eC0, CF0⟩ (fun i σ H' h => ?_) (fun i x y' T σ H' hx hy h hT => ?_) (fun σ H' h => ?_)
    · obtain ⟨_, _, _, _, _, _, _, _, _, _, _, k1, _⟩ := h
      exact ⟨SqL.of (k1.lst l2 fun z => z), SqL.of (k1.lst r2 fun z => z)⟩
    · obtain ⟨C, ts, x5, x6, x7, x8, x9, x10, x11, x12, rfl, k1, eF, el, et, eC, CF⟩ := h
      rw [List.getElem?_map] at hx hy
      obtain ⟨A1, ha, rfl⟩ := Option.map_eq_some_iff.mp hx
      obtain ⟨A2, hb, rfl⟩ := Option.map_eq_some_iff.mp hy
      have hi : i < v := by rw [← l1]; exact (List.getElem?_eq_some_iff.mp ha).1
      have kT : Kept None H' (upd H' T (.tup [.ref A1, .ref A2])) := Kept.refl.new hT
      refine ⟨T, _, rfl, SqT.of upd_same, rfl, .ref A1, [.ref A2], rfl, .ref A2, [], rfl, rfl, ?_⟩
      generalize upd H' T (.tup [.ref A1, .ref A2]) = H2 at kT ⊢
      have k2 := k1.trans kT
      have e1 := k2.lst (l3 i A1 ha) fun z => z
      have e2 := k2.lst (r3 i A2 hb) fun z => z
      have eF2 := kT.lst eF fun z => z
      have eC2 := kT.lst eC fun z => z
      have et2 : ∀ (j : Nat) (t : Addr), ts[j]? = some t → H2 t = some (.lst (nums (bs (fOf v b y z) j))) ∧ t ≠ F1 := fun j t e => ⟨kT.lst (et j t e).1 fun z => z, (et j t e).2⟩
      clear kT eF eC et
      refine ⟨by show 0 ≤ sizeLine; omega, fun S hS => ⟨by show 0 ≤ sizeLine; omega, fun M hM => ⟨_, _, rfl, ?_⟩⟩⟩
      have SM : S ≠ M := fun e => by rw [← e, upd_same] at hM; cases hM
      have hM2 : H2 M = none := by rw [upd_ne SM.symm] at hM; exact hM
      have k3 : Kept None H2 (upd (upd H2 S (.lst [])) M (.lst [])) := (Kept.refl.new hS).trans (Kept.refl.new hM)
      have g0 : Gr (upd (upd H2 S (.lst [])) M (.lst [])) (upd (upd H2 S (.lst [])) M (.lst [])) S M [] [] 0 := ⟨Kept.refl, by rw [upd_ne SM, upd_same]; rfl, upd_same, SM, Nat.le_refl _, Nat.le_refl _⟩
      generalize upd (upd H2 S (.lst [])) M (.lst []) = H3 at k3 g0 ⊢
      have e13 := k3.lst e1 fun z => z
      have e23 := k3.lst e2 fun z => z
      have eC3 := k3.lst eC2 fun z => z
      have eF3 := k3.lst eF2 fun z => z
      have n1S := ne_of_none e1 hS
      have n1M := ne_of_none e1 hM2
      have n2S := ne_of_none e2 hS
      have n2M := ne_of_none e2 hM2
      have nCS := ne_of_none eC2 hS
      have nCM := ne_of_none eC2 hM2
      have nFS := ne_of_none eF2 hS
      have nFM := ne_of_none eF2 hM2
      have lb := bs_len y i
      have rb := bs_len z i
      have cb := car_len b y z i
      refine ⟨.ref A1, rfl, A1, rfl, ⟨_, SqL.of e13⟩, ?_⟩
      refine for_list (K := K) (a := A1) (xs := nums (bs y i)) (fun p σ H' => ∃ (x9 x10 x11 x12 : Option V), σ = [some (.ref L), some (.ref R), some (.int (sg b)), some (.ref F1), some (.ref C), some (.ref A1), some (.ref A2), some (.ref S), some (.ref M), x9, x10, x11, x12] ∧
          Gr H3 H' S M (all3F stay ((bs y i).take p) (bs z i) (car b y z i)) (all3F (mo b) ((bs y i).take p) (bs z i) (car b y z i)) (4 * p)) ⟨x9, x10, x11, x12, rfl, g0⟩ (fun p σ H' _ h => ?_) (fun p x σ H' hx h => ?_) (fun σ H' h => ?_)
      · obtain ⟨_, _, _, _, _, g⟩ := h
        exact SqL.of (g.lst e13 n1S n1M)
      · obtain ⟨x9, x10, x11, x12, rfl, g⟩ := h
        obtain ⟨l, hl, rfl⟩ := nums_at hx
        have hp : p < (bs y i).length := (List.getElem?_eq_some_iff.mp hl).1
        have l1' := bs_le (List.mem_of_getElem? hl)
        refine ⟨.ref A2, rfl, A2, rfl, ⟨_, SqL.of (g.lst e23 n2S n2M)⟩, ?_⟩
        refine for_list (K := K) (a := A2) (xs := nums (bs z i)) (fun q σ H' => ∃ (x10 x11 x12 : Option V), σ = [some (.ref L), some (.ref R), some (.int (sg b)), some (.ref F1), some (.ref C), some (.ref A1), some (.ref A2), some (.ref S), some (.ref M), some (.int (l : Int)), x10, x11, x12] ∧
            Gr H3 H' S M (all3F stay ((bs y i).take p) (bs z i) (car b y z i) ++ ((bs z i).take q).flatMap fun r => (car b y z i).map (stay l r)) (all3F (mo b) ((bs y i).take p) (bs z i) (car b y z i) ++ ((bs z i).take q).flatMap fun r => (car b y z i).map (mo b l r)) (4 * p + 2 * q))
          ⟨x10, x11, x12, rfl, g.wide (by omega) (by rw [List.take_zero, List.flatMap_nil, List.append_nil]) (by rw [List.take_zero, List.flatMap_nil, List.append_nil])⟩ (fun q σ H' _ h => ?_) (fun q x σ H' hx h => ?_) (fun σ H' h => ?_)
        · obtain ⟨_, _, _, _, g⟩ := h
          exact SqL.of (g.lst e23 n2S n2M)
        · obtain ⟨x10, x11, x12, rfl, g⟩ := h
          obtain ⟨r, hr', rfl⟩ := nums_at hx
          have hq : q < (bs z i).length := (List.getElem?_eq_some_iff.mp hr').1
          have r1' := bs_le (List.mem_of_getElem? hr')
          refine ⟨.ref C, rfl, C, rfl, ⟨_, SqL.of (g.lst eC3 nCS nCM)⟩, ?_⟩
          refine for_list (K := K) (a := C) (xs := nums (car b y z i)) (fun m σ H' => ∃ (x11 x12 : Option V), σ = [some (.ref L), some (.ref R), some (.int (sg b)), some (.ref F1), some (.ref C), some (.ref A1), some (.ref A2), some (.ref S), some (.ref M), some (.int (l : Int)), some (.int (r : Int)), x11, x12] ∧
              Gr H3 H' S M ((all3F stay ((bs y i).take p) (bs z i) (car b y z i) ++ ((bs z i).take q).flatMap fun r => (car b y z i).map (stay l r)) ++ ((car b y z i).take m).map (stay l r)) ((all3F (mo b) ((bs y i).take p) (bs z i) (car b y z i) ++ ((bs z i).take q).flatMap fun r => (car b y z i).map (mo b l r)) ++ ((car b y z i).take m).map (mo b l r)) (4 * p + 2 * q + m))
            ⟨x11, x12, rfl, g.wide (by omega) (by rw [List.take_zero, List.map_nil, List.append_nil]) (by rw [List.take_zero, List.map_nil, List.append_nil])⟩ (fun m σ H' _ h => ?_) (fun m x σ H' hx h => ?_) (fun σ H' h => ?_)
          · obtain ⟨_, _, _, g⟩ := h
            exact SqL.of (g.lst eC3 nCS nCM)
          · obtain ⟨x11, x12, rfl, g⟩ := h
            obtain ⟨c, hc', rfl⟩ := nums_at hx
            have hm : m < (car b y z i).length := (List.getElem?_eq_some_iff.mp hc').1
            have c1' : c ≤ 1 := car_le (List.mem_of_getElem? hc')
            refine ⟨.int (l : Int), rfl, .int (sg b), rfl, .int (r : Int), rfl, .int (c : Int), rfl, (r : Int), (c : Int), rfl, rfl, sg b, _, rfl, rfl, .inl (by cases b <;> decide), (l : Int), _, rfl, rfl, ?_⟩
            have la := g.la
            have lm := g.lm
            refine ⟨.ref S, rfl, .inl ⟨rfl, _, SqL.of g.s⟩, _, rfl, _, 2, _, rfl, rfl, by decide, tot_mod l1' r1' c1', S, _, _, rfl, rfl, g.s, by rw [nums_len]; omega, ?_⟩
            refine ⟨.ref M, rfl, .inl ⟨rfl, _, SqL.of (by rw [upd_ne SM.symm]; exact g.e)⟩, ?_⟩
            have tm := tot_mo (b := b) l1' r1' c1'
            have eM : ∀ o : HO, upd H' S o M = _ := fun o => (upd_ne SM.symm).trans g.e
            refine ⟨_, rfl, _, 1, rfl, rfl, _, rfl, ite2 (fun h1 => ?_) (fun h1 => ?_)⟩
            · have h1' : decide ((1 : Int) < (l : Int) + sg b * ((r : Int) + (c : Int))) = true := h1
              rw [h1'] at tm
              refine .inr ⟨true, rfl, M, _, _, rfl, rfl, eM _, by rw [nums_len]; omega, ?_⟩
              exact ⟨_, _, rfl, (g.put2 (stay l r c) (mo b l r c) tm).wide (by omega) (by rw [a1_snoc (stay l r) _ hc', List.append_assoc]) (by rw [a1_snoc (mo b l r) _ hc', List.append_assoc])⟩
            · have h1' : decide ((1 : Int) < (l : Int) + sg b * ((r : Int) + (c : Int))) = false := Bool.eq_false_iff.mpr h1
              rw [h1', Bool.false_or] at tm
              refine ⟨_, rfl, _, 0, rfl, rfl, .inr ⟨_, rfl, M, _, _, rfl, rfl, eM _, by rw [nums_len]; omega, ?_⟩⟩
              exact ⟨_, _, rfl, (g.put2 (stay l r c) (mo b l r c) tm).wide (by omega) (by rw [a1_snoc (stay l r) _ hc', List.append_assoc]) (by rw [a1_snoc (mo b l r) _ hc', List.append_assoc])⟩
          · obtain ⟨x11, x12, rfl, g⟩ := h
            rw [nums_len, List.take_length] at g
            exact ⟨_, _, _, rfl, g.wide (by omega) (by rw [a2_snoc (stay l) _ _ hr', List.append_assoc]) (by rw [a2_snoc (mo b l) _ _ hr', List.append_assoc])⟩
        · obtain ⟨x10, x11, x12, rfl, g⟩ := h
          rw [nums_len, List.take_length] at g
          exact ⟨_, _, _, _, rfl, g.wide (by omega) (by rw [a3_snoc stay _ _ _ hl]) (by rw [a3_snoc (mo b) _ _ _ hl])⟩
      · obtain ⟨x9, x10, x11, x12, rfl, g⟩ := h
        rw [nums_len, List.take_length] at g
        have la := g.la
        have lm := g.lm
        have kH : Kept None H H' := fun c o e n => ko_trans ((k2.trans k3) c o e n) fun u q' => g.k c u q' fun z => z.elim (fun z => by rw [z, k2.free hS] at e; cases e) (fun z => by rw [z, k2.free hM2] at e; cases e)
        have eF' := g.lst eF3 nFS nFM
        have le1 : ∀ n ∈ all3F stay (bs y i) (bs z i) (car b y z i), n ≤ 1 := fun n hn => by
          obtain ⟨l, _, r, _, c, _, rfl⟩ := all3F_mem.mp hn
          unfold stay
          have := Nat.mod_lt (l + r + c) (show 0 < 2 by decide)
          omega
        have le2 : ∀ n ∈ all3F (mo b) (bs y i) (bs z i) (car b y z i), n ≤ 1 := fun n hn => by
          obtain ⟨l, _, r, _, c, _, rfl⟩ := all3F_mem.mp hn
          unfold mo
          split
          · exact goOn_le l r c
          · exact under_le l r c
        refine ⟨.ref F1, rfl, .inl ⟨rfl, _, SqL.of eF'⟩, .ref S, rfl, ?_⟩
        unfold tNil
        refine ss01_go g.s (by omega) le1 (fun y H' h => h) fun p1 H4 k4 hp1 e4 => ?_
        rw [bits_of b cy cz hi] at e4
        have eF4 := k4.lst eF' fun z => z
        refine ⟨F1, _, .ref p1, rfl, rfl, eF4, by rw [List.length_map]; omega, ?_⟩
        have eM6 : upd H4 F1 (.lst (ts.map V.ref ++ [.ref p1])) M = some (.lst (nums (all3F (mo b) (bs y i) (bs z i) (car b y z i)))) := by rw [upd_ne nFM.symm]; exact k4.lst g.e fun z => z
        have k6 : Kept None H (upd H4 F1 (.lst (ts.map V.ref ++ [.ref p1]))) := (kH.trans k4).new hF
        have p1F : p1 ≠ F1 := (ne_of_none eF' hp1).symm
        have eF6 : upd H4 F1 (.lst (ts.map V.ref ++ [.ref p1])) F1 = some (.lst ((ts ++ [p1]).map V.ref)) := by rw [upd_same, List.map_append]; rfl
        have et6 : ∀ (j : Nat) (t : Addr), (ts ++ [p1])[j]? = some t → upd H4 F1 (.lst (ts.map V.ref ++ [.ref p1])) t = some (.lst (nums (bs (fOf v b y z) j))) ∧ t ≠ F1 := fun j t e => by
          by_cases hj : j < ts.length
          · rw [List.getElem?_append_left hj] at e
            obtain ⟨f1, f2⟩ := et2 j t e
            refine ⟨?_, f2⟩
            rw [upd_ne f2]
            exact k4.lst (g.lst (k3.lst f1 fun z => z) (ne_of_none f1 hS) (ne_of_none f1 hM2)) fun z => z
          · have hj2 : j = ts.length := by
              have := (List.getElem?_eq_some_iff.mp e).1
              rw [List.length_append] at this
              simp only [List.length_cons, List.length_nil] at this
              omega
            subst hj2
            rw [List.getElem?_append_right (Nat.le_refl _), Nat.sub_self] at e
            have eb : p1 = t := Option.some.inj e
            subst eb
            exact ⟨by rw [upd_ne p1F, e4, el], p1F⟩
        generalize upd H4 F1 (.lst (ts.map V.ref ++ [.ref p1])) = H6 at eM6 k6 eF6 et6 ⊢
        refine ⟨.ref M, rfl, ss01_go eM6 (by omega) le2 (fun y H' h => h) fun p2 H7 k7 hp2 e7 => ?_⟩
        rw [← car_succ] at e7
        exact ⟨p2, ts ++ [p1], _, _, _, _, _, _, _, _, rfl, k6.trans k7, k7.lst eF6 fun z => z, by rw [List.length_append, el]; rfl, fun j t e => ⟨k7.lst (et6 j t e).1 fun z => z, (et6 j t e).2⟩, e7, (ne_of_none eF6 hp2).symm⟩
    · obtain ⟨C, ts, x5, x6, x7, x8, x9, x10, x11, x12, rfl, k1, eF, el, et, eC, CF⟩ := h
      rw [List.length_map, l1] at el
      exact ⟨.ref F1, rfl, q F1 H' k1 ⟨ts, el, eF, fun j t e => (et j t e).1⟩⟩
end
end K12

set_option Elab.async false
set_option linter.all false
set_option maxRecDepth 100000
set_option maxHeartbeats 4000000
namespace K12
open PySem PySem.Spec PyProof.Rows L2
/-! ### which orders may be -/
theorem fm_snoc (g : Nat → List Nat) (rs : List Nat) {i r : Nat} (h : rs[i]? = some r) : (rs.take (i + 1)).flatMap g = (rs.take i).flatMap g ++ g r := by
  rw [List.take_add_one, h, List.flatMap_append]
  simp
def ordF (os : List Nat) (l r : Nat) : List Nat := if l = r then os else [if l < r then 0 else 2]
theorem moreO_eq (ls rs os : List Nat) : moreO ls rs os = ls.flatMap fun l => rs.flatMap (ordF os l) := rfl
theorem set012_len (l : List Nat) : (set012 l).length ≤ 3 := by
  unfold set012
  rw [List.length_append, List.length_append]
  split <;> split <;> split <;> decide
theorem set012_le {l : List Nat} {n : Nat} (h : n ∈ set012 l) : n ≤ 2 := by
  unfold set012 at h
  rcases List.mem_append.mp h with q | q
  · rw [(if_mem.mp q).1]; decide
  · rcases List.mem_append.mp q with q | q
    · rw [(if_mem.mp q).1]; decide
    · rw [(if_mem.mp q).1]; decide
theorem ords_len (y z : F2) (k : Nat) : (ords y z k).length ≤ 3 := by
  cases k with
  | zero => show [1].length ≤ 3; decide
  | succ k => exact set012_len _
theorem ords_le {y z : F2} {k n : Nat} (h : n ∈ ords y z k) : n ≤ 2 := by
  cases k with
  | zero => rw [List.mem_singleton.mp (show n ∈ [1] from h)]; decide
  | succ k => exact set012_le h
theorem at20 (l r : Nat) : atI [V.int 2, V.int 0] (if decide ((l : Int) < (r : Int)) = true then (1 : Int) else 0) = some (.int ((if l < r then 0 else 2 : Nat) : Int)) := by
  by_cases h : l < r
  · rw [decide_eq_true (show (l : Int) < (r : Int) by omega), if_pos rfl, if_pos h]; rfl
  · rw [decide_eq_false (show ¬ (l : Int) < (r : Int) by omega), if_neg Bool.false_ne_true, if_neg h]; rfl
abbrev sLOrders : Stmt := top 36
theorem scLOrders : FnScope ["ones", "others", "orders", "one", "other", "more", "left", "right"] ["ones", "others"] (defScope sLOrders) := ⟨rfl, rfl, rfl, by decide +kernel, rfl, by decide +kernel, by decide +kernel⟩
def spLOrders : Sp := fun vs H Q _ => ∃ (L R : Addr) (v : Nat) (y z : F2), vs = [.ref L, .ref R] ∧ v ≤ 100 ∧ BL H L v y ∧ BL H R v z ∧ ∀ (p : Addr) (H' : Hp), Kept None H H' → H' p = some (.lst (nums (ords y z v))) → Q (.ref p) H'
section
variable {P : Program} {w : World} {K : PySem.W.Frag} {mg : PySem.Str → Option Value} {base : Heap} {f : Addr} {fd : FuncData}
theorem ok_lorders (F : FnP K "_law_orders" sLOrders f fd) (m_zip : mg "zip" = none) (m_int : mg "int" = none) (m_sorted : mg "sorted" = none) (m_set : mg "set" = none) : FnOk P w K mg base CX0 1 f fd ["ones", "others"] spLOrders := by
  refine F.ok (k := 0) scLOrders (fun vs H Q E h => ?_) (fun cdv A outer s H vs Q E hr h => ?_)
  · obtain ⟨L, R, v, y, z, rfl, _⟩ := h
    rfl
  · obtain ⟨L, R, v, y, z, rfl, hv, hL, hR, q⟩ := h
    refine ⟨_, PSs.nox (pss_cons (ps_set (i := 2) scLOrders.nd rfl (Or.inl rfl) (pe_lst (pa_cons pe_int pa_nil)))
    (pss_cons (ps_for PassesOwn.never rfl (pi_zip (by rfl) m_zip (pa_cons (pv 0) (pa_cons (pv 1) pa_nil))) (pg_tup rfl (pgs_cons (pg_name (i := 3) scLOrders.nd rfl (Or.inl rfl)) (pgs_cons (pg_name (i := 4) scLOrders.nd rfl (Or.inl rfl)) pgs_nil)))
      (pss_cons (ps_set (i := 5) scLOrders.nd rfl (Or.inl rfl) (pe_lst pa_nil))
      (pss_cons (ps_for PassesOwn.never rfl (pi_list (pv 3)) (pg_name (i := 6) scLOrders.nd rfl (Or.inl rfl))
        (pss_one (ps_for PassesOwn.never rfl (pi_list (pv 4)) (pg_name (i := 7) scLOrders.nd rfl (Or.inl rfl))
          (pss_one (ps_set (i := 5) scLOrders.nd rfl (Or.inl rfl) (pe_op op_cat (pv 5) (pe_ifExp (pt_cmpR op_ne (pv 6) (pv 7) (nomark _)) (pe_lst (pa_cons (pe_ix ix_list (pe_lst (pa_cons pe_int (pa_cons pe_int pa_nil))) (pe_callTy call_int1 (by rfl) m_int (by decide +kernel) (pa_cons (pe_cmpR op_lt (pv 6) (pv 7) (nomark _)) pa_nil)) (fun _ _ => rfl)) pa_nil)) (pv 2))))))))
      (pss_one (ps_set (i := 2) scLOrders.nd rfl (Or.inl rfl) (pe_callB (cr_sortedSet rfl) (by rfl) m_sorted (by decide +kernel) (pa_cons (pe_callTy (cr_setL rfl) (by rfl) m_set (by decide +kernel) (pa_cons (pv 5) pa_nil)) pa_nil)))))))
    (pss_one (ps_ret (pv 2))))), ?_⟩
    have hsz := sizeLine_eq
    obtain ⟨ls, l1, l2, l3⟩ := hL.ex
    obtain ⟨rs, r1, r2, r3⟩ := hR.ex
    refine ⟨by show 1 ≤ sizeLine; omega, fun C0 hC => ?_⟩
    have k0 : Kept None H (upd H C0 (.lst [.int 1])) := Kept.refl.new hC
    have eC0 : upd H C0 (.lst [.int 1]) C0 = some (.lst (nums (ords y z 0))) := upd_same
    generalize upd H C0 (.lst [.int 1]) = H0 at k0 eC0 ⊢
    refine ⟨.ref L, rfl, .ref R, rfl, L, R, _, _, rfl, SqL.of (k0.lst l2 fun z => z), SqL.of (k0.lst r2 fun z => z), ?_⟩
    refine RZ.for_zipL (K := K) (xs := ls.map V.ref) (ys := rs.map V.ref) (by rw [List.length_map, List.length_map, l1, r1]) (fun i σ H' => ∃ (C : Addr) (x3 x4 x5 x6 x7 : Option V), σ = [some (.ref L), some (.ref R), some (.ref C), x3, x4, x5, x6, x7] ∧ Kept None H H' ∧ H' C = some (.lst (nums (ords y z i))))
      ⟨C0, none, none, none, none, none, rfl, k0, eC0⟩ (fun i σ H' h => ?_) (fun i x y' T σ H' hx hy h hT => ?_) (fun σ H' h => ?_)
    · obtain ⟨_, _, _, _, _, _, _, k1, _⟩ := h
      exact ⟨SqL.of (k1.lst l2 fun z => z), SqL.of (k1.lst r2 fun z => z)⟩
    · obtain ⟨C, x3, x4, x5, x6, x7, rfl, k1, eC⟩ := h
      rw [List.getElem?_map] at hx hy
      obtain ⟨A1, ha, rfl⟩ := Option.map_eq_some_iff.mp hx
      obtain ⟨A2, hb, rfl⟩ := Option.map_eq_some_iff.mp hy
      have hi : i < v := by rw [← l1]; exact (List.getElem?_eq_some_iff.mp ha).1
      have kT : Kept None H' (upd H' T (.tup [.ref A1, .ref A2])) := Kept.refl.new hT
      refine ⟨T, _, rfl, SqT.of upd_same, rfl, .ref A1, [.ref A2], rfl, .ref A2, [], rfl, rfl, ?_⟩
      generalize upd H' T (.tup [.ref A1, .ref A2]) = H2 at kT ⊢
      have k2 := k1.trans kT
      have e1 := k2.lst (l3 i A1 ha) fun z => z
      have e2 := k2.lst (r3 i A2 hb) fun z => z
      have eC2 := kT.lst eC fun z => z
      clear kT eC
      refine ⟨by show 0 ≤ sizeLine; omega, fun M0 hM => ?_⟩
      have k3 : Kept None H2 (upd H2 M0 (.lst [])) := Kept.refl.new hM
      have eM0 : upd H2 M0 (.lst []) M0 = some (.lst (nums [])) := upd_same
      generalize upd H2 M0 (.lst []) = H3 at k3 eM0 ⊢
      have lb := bs_len y i
      have rb := bs_len z i
      have cb := ords_len y z i
      have e13 := k3.lst e1 fun z => z
      refine ⟨.ref A1, rfl, A1, rfl, ⟨_, SqL.of e13⟩, ?_⟩
      refine for_list (K := K) (a := A1) (xs := nums (bs y i)) (fun p σ H' => ∃ (M : Addr) (m : List Nat) (x6 x7 : Option V), σ = [some (.ref L), some (.ref R), some (.ref C), some (.ref A1), some (.ref A2), some (.ref M), x6, x7] ∧ Kept None H2 H' ∧ H' M = some (.lst (nums m)) ∧
          m = ((bs y i).take p).flatMap (fun l => (bs z i).flatMap (ordF (ords y z i) l)) ∧ m.length ≤ 6 * p) ⟨M0, [], x6, x7, rfl, k3, eM0, rfl, Nat.le_refl _⟩ (fun p σ H' _ h => ?_) (fun p x σ H' hx h => ?_) (fun σ H' h => ?_)
      · obtain ⟨_, _, _, _, _, k4, _⟩ := h
        exact SqL.of (k4.lst e1 fun z => z)
      · obtain ⟨M, m, x6, x7, rfl, k4, eM, em, lm⟩ := h
        obtain ⟨l, hl, rfl⟩ := nums_at hx
        have hp : p < (bs y i).length := (List.getElem?_eq_some_iff.mp hl).1
        refine ⟨.ref A2, rfl, A2, rfl, ⟨_, SqL.of (k4.lst e2 fun z => z)⟩, ?_⟩
        refine for_list (K := K) (a := A2) (xs := nums (bs z i)) (fun q σ H' => ∃ (M : Addr) (m : List Nat) (x7 : Option V), σ = [some (.ref L), some (.ref R), some (.ref C), some (.ref A1), some (.ref A2), some (.ref M), some (.int (l : Int)), x7] ∧ Kept None H2 H' ∧ H' M = some (.lst (nums m)) ∧
            m = ((bs y i).take p).flatMap (fun l => (bs z i).flatMap (ordF (ords y z i) l)) ++ ((bs z i).take q).flatMap (ordF (ords y z i) l) ∧ m.length ≤ 6 * p + 3 * q)
          ⟨M, m, x7, rfl, k4, eM, by rw [em, List.take_zero, List.flatMap_nil, List.append_nil], by omega⟩ (fun q σ H' _ h => ?_) (fun q x σ H' hx h => ?_) (fun σ H' h => ?_)
        · obtain ⟨_, _, _, _, k5, _⟩ := h
          exact SqL.of (k5.lst e2 fun z => z)
        · obtain ⟨M, m, x7, rfl, k5, eM, em, lm⟩ := h
          obtain ⟨r, hr', rfl⟩ := nums_at hx
          have hq : q < (bs z i).length := (List.getElem?_eq_some_iff.mp hr').1
          have grow : ∀ t : List Nat, ordF (ords y z i) l r = t → m ++ t = ((bs y i).take p).flatMap (fun l => (bs z i).flatMap (ordF (ords y z i) l)) ++ ((bs z i).take (q + 1)).flatMap (ordF (ords y z i) l) := fun t ht => by
            rw [em, fm_snoc _ _ hr', ht, List.append_assoc]
          refine ⟨.ref M, rfl, .int (l : Int), rfl, .int (r : Int), rfl, rfl, _, rfl, ite2 (fun hn => ?_) (fun hn => ?_)⟩
          · have ne : l ≠ r := fun e => by
              subst e
              rw [decide_eq_true rfl] at hn
              cases hn
            refine ⟨by show 2 ≤ sizeLine; omega, fun q1 hq1 => ⟨.int (l : Int), rfl, .int (r : Int), rfl, _, _, rfl, rfl, .inr ⟨_, rfl, q1, _, _, _, rfl, rfl, SqL.of upd_same, at20 l r, ?_⟩⟩⟩
            have k6 : Kept None H' (upd H' q1 (.lst [.int 2, .int 0])) := Kept.refl.new hq1
            generalize upd H' q1 (.lst [.int 2, .int 0]) = H6 at k6 ⊢
            refine ⟨by show 1 ≤ sizeLine; omega, fun q2 hq2 => ?_⟩
            have k7 := k6.trans (Kept.refl.new (o := .lst [.int ((if l < r then 0 else 2 : Nat) : Int)]) hq2)
            refine ⟨M, q2, _, _, rfl, rfl, k7.lst eM fun z => z, upd_same, by rw [nums_len]; show m.length + 1 ≤ sizeLine; omega, fun p' hp' => ?_⟩
            refine ⟨p', m ++ [if l < r then 0 else 2], _, rfl, (k5.trans k7).new ((k5.trans k7).free hp'), by rw [upd_same, nums_snoc], grow _ (if_neg ne), by rw [List.length_append]; show m.length + 1 ≤ _; omega⟩
          · have eq : l = r := Classical.byContradiction fun ne => hn (by rw [decide_eq_false (fun e => ne (by have := V.int.inj e; omega))]; rfl)
            have eC5 := k5.lst eC2 fun z => z
            refine ⟨.ref C, rfl, M, C, _, _, rfl, rfl, eM, eC5, by rw [nums_len, nums_len]; omega, fun p' hp' => ?_⟩
            refine ⟨p', m ++ ords y z i, _, rfl, k5.new (k5.free hp'), by rw [upd_same]; unfold nums; rw [List.map_append], grow _ (if_pos eq), by rw [List.length_append]; omega⟩
        · obtain ⟨M, m, x7, rfl, k5, eM, em, lm⟩ := h
          rw [nums_len, List.take_length] at em
          rw [nums_len] at lm
          exact ⟨M, m, _, _, rfl, k5, eM, by rw [em, fm_snoc (fun l => (bs z i).flatMap (ordF (ords y z i) l)) _ hl], by omega⟩
      · obtain ⟨M, m, x6, x7, rfl, k4, eM, em, lm⟩ := h
        rw [nums_len, List.take_length] at em
        rw [nums_len] at lm
        have le : ∀ n ∈ m, n ≤ 2 := fun n hn => by
          rw [em, ← moreO_eq] at hn
          obtain ⟨l, _, r, _, h | h⟩ := moreO_mem.mp hn
          · exact ords_le h.2
          · rw [h.2]; split <;> decide
        refine ⟨.ref M, rfl, ?_⟩
        unfold tNil
        refine ss_go eM (by omega) le (fun y H' h => h) fun p1 H5 k5 hp1 e5 => ?_
        rw [em, ← moreO_eq] at e5
        exact ⟨p1, _, _, _, _, _, rfl, (k2.trans k4).trans k5, e5⟩
    · obtain ⟨C, x3, x4, x5, x6, x7, rfl, k1, eC⟩ := h
      rw [List.length_map, l1] at eC
      exact ⟨.ref C, rfl, q C H' k1 eC⟩
end
end K12

set_option Elab.async false
set_option linter.all false
set_option maxRecDepth 100000
set_option maxHeartbeats 4000000
namespace K12
open PySem PySem.Spec PyProof.Rows L2
/-! ### and, or, unlike of two bits -/
def byB : Op → Nat → Nat → Nat
  | .and, a, b => a * b
  | .or, a, b => if b > a then b else a
  | _, a, b => if a = b then 0 else 1
def isBit (o : Op) : Prop := o = .and ∨ o = .or ∨ o = .unlike
theorem op_bits {w : Nat} {y z : F2} (cy : Fc w y) (cz : Fc w z) {o : Op} (ho : isBit o) {k : Nat} (hk : k < w) : set01 ((bs z k).flatMap fun b => (bs y k).map fun a => byB o a b) = bs (o.f (most w) y z) k := by
  rcases ho with rfl | rfl | rfl
  · refine two_bits cy cz (tells_both cy cz) hk fun a b => ?_
    rw [show B (a &&& b) k = (B a k && B b k) from Nat.testBit_and ..]
    cases B a k <;> cases B b k <;> rfl
  · refine two_bits cy cz (tells_either cy cz) hk fun a b => ?_
    rw [show B (a ||| b) k = (B a k || B b k) from Nat.testBit_or ..]
    cases B a k <;> cases B b k <;> rfl
  · refine two_bits cy cz (tells_unlike cy cz) hk fun a b => ?_
    rw [show B (a ^^^ b) k = (B a k ^^ B b k) from Nat.testBit_xor ..]
    cases B a k <;> cases B b k <;> rfl
abbrev sLByBits : Stmt := top 37
theorem scLByBits : FnScope ["word", "one", "other"] ["word", "one", "other"] (defScope sLByBits) := ⟨rfl, rfl, rfl, by decide +kernel, rfl, by decide +kernel, by decide +kernel⟩
def spLBy : Sp := fun vs H Q _ => ∃ (o : Op) (a b : Nat), vs = [.str o.name, .int (a : Int), .int (b : Int)] ∧ isBit o ∧ a ≤ 1 ∧ b ≤ 1 ∧ ∀ H', Kept None H H' → Q (.int ((byB o a b : Nat) : Int)) H'
section
variable {P : Program} {w : World} {K : PySem.W.Frag} {mg : PySem.Str → Option Value} {base : Heap} {f : Addr} {fd : FuncData}
theorem ok_lby (F : FnP K "_law_by_bits" sLByBits f fd) (m_max : mg "max" = none) (m_int : mg "int" = none) : FnOk P w K mg base CX0 1 f fd ["word", "one", "other"] spLBy := by
  refine F.ok (k := 0) scLByBits (fun vs H Q E h => ?_) (fun cdv A outer s H vs Q E hr h => ?_)
  · obtain ⟨o, a, b, rfl, _⟩ := h
    rfl
  · obtain ⟨o, a, b, rfl, ho, ha, hb, q⟩ := h
    have hu := hu_of hr
    refine ⟨_, PSs.nox (pss_one (ps_ret (pe_dget hu (pe_disp (pps_cons pe_str (pe_op n_mul (pv 1) (pv 2)) (pps_cons pe_str (pe_callB (call_max2 rfl) (by rfl) m_max (by decide +kernel) (pa_cons (pv 1) (pa_cons (pv 2) pa_nil))) (pps_cons pe_str (pe_callTy call_int1 (by rfl) m_int (by decide +kernel) (pa_cons (pe_cmpR op_ne (pv 1) (pv 2) (nomark _)) pa_nil)) pps_nil))) (by rfl) (by rfl) (fun z => by cases z) (by decide)) (pv 0) (fun _ _ => rfl)))), ?_⟩
    intro u hu4
    have k1 : Kept None H (upd H u (.dK [])) := Kept.refl.new hu4
    refine ⟨.int (a : Int), rfl, .int (b : Int), rfl, a, b, rfl, rfl, by omega, .int (a : Int), rfl, .int (b : Int), rfl, (a : Int), (b : Int), rfl, ?_⟩
    refine ⟨.int (a : Int), rfl, .int (b : Int), rfl, rfl, .inr ⟨_, rfl, upd_same, [(Sum.inr "and", .int ((a * b : Nat) : Int)), (Sum.inr "or", .int (if (b : Int) > (a : Int) then (b : Int) else (a : Int))), (Sum.inr "unlike", .int (if (!decide (V.int (a : Int) = V.int (b : Int))) = true then 1 else 0))], rfl, (show 3 ≤ 15 by decide), ?_⟩⟩
    have k2 := fun o : HO => (k1.new (o := o) hu4)
    rcases ho with rfl | rfl | rfl
    · refine ⟨.str Op.and.name, rfl, u, _, rfl, DGet.k (k := Sum.inr "and") upd_same, ?_⟩
      exact q _ (k2 _)
    · refine ⟨.str Op.or.name, rfl, u, .int ((byB .or a b : Nat) : Int), rfl, ?_, q _ (k2 _)⟩
      have e : (if (b : Int) > (a : Int) then (b : Int) else (a : Int)) = ((byB .or a b : Nat) : Int) := by
        show _ = (((if b > a then b else a) : Nat) : Int)
        by_cases h : b > a
        · rw [if_pos h, if_pos (by omega)]
        · rw [if_neg h, if_neg (by omega)]
      rw [e]
      exact DGet.k (k := Sum.inr "or") upd_same
    · refine ⟨.str Op.unlike.name, rfl, u, .int ((byB .unlike a b : Nat) : Int), rfl, ?_, q _ (k2 _)⟩
      have e : (if (!decide (V.int (a : Int) = V.int (b : Int))) = true then (1 : Int) else 0) = ((byB .unlike a b : Nat) : Int) := by
        show _ = (((if a = b then 0 else 1) : Nat) : Int)
        by_cases h : a = b
        · subst h
          rw [decide_eq_true rfl, if_pos rfl]; rfl
        · rw [decide_eq_false (fun z => h (by have := V.int.inj z; omega)), if_neg h]; rfl
      rw [e]
      exact DGet.k (k := Sum.inr "unlike") upd_same
end
end K12

set_option Elab.async false
set_option linter.all false
set_option maxRecDepth 100000
set_option maxHeartbeats 4000000
namespace K12
open PySem PySem.Spec PyProof.Rows L2
/-! ### what is due, bit by bit -/
/-- a dict of lists of what bits may be -/
structure BD (H : Hp) (a : Addr) (ks : List PySem.Str) (w : Nat) (g : PySem.Str → F2) : Prop where
  ex : ∃ (kvs : List (Key × V)) (pa : PySem.Str → Addr), H a = some (.dK kvs) ∧ ∀ x ∈ ks, valV kvs (Sum.inr x : Key) = some (.ref (pa x)) ∧ BL H (pa x) w (g x)
theorem BD.kept {H H' : Hp} {a : Addr} {ks : List PySem.Str} {w : Nat} {g : PySem.Str → F2} (h : BD H a ks w g) (k : Kept None H H') : BD H' a ks w g := by
  obtain ⟨kvs, pa, e, h⟩ := h.ex
  exact ⟨kvs, pa, k.dK e (fun z => z), fun x hx => ⟨(h x hx).1, (h x hx).2.kept k fun _ z => z⟩⟩
def Ex.ok (v : Nat) : Ex → Prop
  | .num n => n < 2 ^ v
  | .up _ k => k ≤ 11
  | .down _ k => k ≤ 11
  | _ => True
abbrev scK : Scope := { kind := .function, names := [(".0", .local), ("k", .cell), ("sorted", .globalImplicit), ("set", .globalImplicit), ("sum", .globalImplicit), ("rows", .cell)], isGenerator := false, isCoroutine := false }
abbrev scB : Scope := { kind := .function, names := [(".0", .local), ("b", .cell), ("left", .cell), ("word", .cell)], isGenerator := false, isCoroutine := false }
theorem byB_le {o : Op} (ho : isBit o) {a b : Nat} (ha : a ≤ 1) (hb : b ≤ 1) : byB o a b ≤ 1 := by
  rcases (show a = 0 ∨ a = 1 by omega) with rfl | rfl <;> rcases (show b = 0 ∨ b = 1 by omega) with rfl | rfl <;> rcases ho with rfl | rfl | rfl <;> decide
theorem flat_len (l : List Nat) (g : Nat → List Nat) (n : Nat) (h : ∀ x, (g x).length ≤ n) : (l.flatMap g).length ≤ n * l.length := by
  induction l with
  | nil => exact Nat.le_refl _
  | cons x l ih =>
    rw [List.flatMap_cons, List.length_append, List.length_cons]
    have := h x
    rw [Nat.mul_add]
    omega
theorem inV_nums (n : Nat) : ∀ l : List Nat, inV (.int (n : Int)) (nums l) = decide (n ∈ l)
  | [] => rfl
  | x :: l => by
    have ih := inV_nums n l
    unfold inV at ih ⊢
    show ((eqV (.int (x : Int)) (.int (n : Int))) || (nums l).any fun y => eqV y (.int (n : Int))) = _
    rw [ih]
    by_cases h : x = n
    · subst h
      simp [eqV]
    · have h2 : ¬ (x : Int) = (n : Int) := fun z => h (by omega)
      have h3 : ¬ n = x := fun z => h z.symm
      simp [eqV, h2, h3]
theorem flat_nums : ∀ l : List Nat, (nums l).all flatV = true
  | [] => rfl
  | _ :: l => flat_nums l
theorem noS {x y : PySem.Str} (h : x ≠ y) : ¬ decide (V.str x = V.str y) = true := fun z => h (V.str.inj (of_decide_eq_true z))
theorem take_cut (xs : List V) (v : Nat) : cutV xs none (some (v : Int)) = xs.take v := by
  unfold cutV
  rw [HT.sIx_none]
  have e : HT.sIx xs.length xs.length (some (v : Int)) = min v xs.length := HT.sIx_nat _ _ _
  rw [e, List.drop_zero, Nat.sub_zero]
  by_cases h : v ≤ xs.length
  · rw [Nat.min_eq_left h]
  · rw [Nat.min_eq_right (by omega), List.take_of_length_le (Nat.le_refl _), List.take_of_length_le (by omega)]
theorem drop_cut (xs : List V) (k : Nat) : cutV xs (some (k : Int)) none = xs.drop k := by
  unfold cutV
  have e2 : HT.sIx xs.length xs.length none = xs.length := by unfold HT.sIx; rfl
  have e : HT.sIx xs.length 0 (some (k : Int)) = min k xs.length := HT.sIx_nat _ _ _
  rw [e2, e]
  by_cases h : k ≤ xs.length
  · rw [Nat.min_eq_left h, List.take_of_length_le (by rw [List.length_drop]; omega)]
  · rw [Nat.min_eq_right (by omega), List.drop_of_length_le (Nat.le_refl _), List.drop_of_length_le (by omega), List.take_nil]
theorem rep_one (t : Addr) (k : Nat) : (List.replicate k [V.ref t]).flatten = (List.replicate k t).map V.ref := by
  induction k with
  | zero => rfl
  | succ k ih => rw [List.replicate_succ, List.flatten_cons, ih, List.replicate_succ]; rfl
/-- lists of numbers in a list -/
structure LL (H : Hp) (L : Addr) (us : List Addr) (ls : List (List Nat)) : Prop where
  e : H L = some (.lst (us.map V.ref))
  n : us.length = ls.length
  t : ∀ (j : Nat) (u : Addr) (l : List Nat), us[j]? = some u → ls[j]? = some l → H u = some (.lst (nums l)) ∧ u ≠ L
theorem LL.kept {H H' : Hp} {L : Addr} {us : List Addr} {ls : List (List Nat)} (h : LL H L us ls) (k : Kept None H H') : LL H' L us ls :=
  ⟨k.lst h.e fun z => z, h.n, fun j u l e1 e2 => ⟨k.lst (h.t j u l e1 e2).1 fun z => z, (h.t j u l e1 e2).2⟩⟩
theorem LL.put {H : Hp} {L : Addr} {us : List Addr} {ls : List (List Nat)} (h : LL H L us ls) {u : Addr} {l : List Nat} (e : H u = some (.lst (nums l))) (ne : u ≠ L) : LL (upd H L (.lst (us.map V.ref ++ [.ref u]))) L (us ++ [u]) (ls ++ [l]) where
  e := by rw [upd_same, List.map_append]; rfl
  n := by rw [List.length_append, List.length_append, h.n]; rfl
  t := fun j w m q1 q2 => by
    by_cases hj : j < us.length
    · rw [List.getElem?_append_left hj] at q1
      rw [List.getElem?_append_left (by rw [← h.n]; exact hj)] at q2
      obtain ⟨f1, f2⟩ := h.t j w m q1 q2
      exact ⟨by rw [upd_ne f2]; exact f1, f2⟩
    · have hj2 : j = us.length := by
        have := (List.getElem?_eq_some_iff.mp q1).1
        rw [List.length_append] at this
        simp only [List.length_cons, List.length_nil] at this
        omega
      subst hj2
      rw [List.getElem?_append_right (Nat.le_refl _), Nat.sub_self] at q1
      rw [h.n, List.getElem?_append_right (Nat.le_refl _), Nat.sub_self] at q2
      have eb : u = w := Option.some.inj q1
      have el : l = m := Option.some.inj q2
      subst eb
      subst el
      exact ⟨by rw [upd_ne ne]; exact e, ne⟩
theorem dpAll_of {K : PySem.W.Frag} {H : Hp} : ∀ {us : List Addr} {ls : List (List Nat)}, us.length = ls.length → (∀ (j : Nat) (u : Addr) (l : List Nat), us[j]? = some u → ls[j]? = some l → H u = some (.lst (nums l))) → DpAll K H (us.map V.ref) (ls.map numsD)
  | [], [], _, _ => .nil
  | [], _ :: _, h, _ => by cases h
  | _ :: _, [], h, _ => by cases h
  | u :: us, l :: ls, h, t => .cons (.lst (SqL.of (t 0 u l rfl rfl)) (dpNums l)) (dpAll_of (Nat.succ.inj h) fun j w m q1 q2 => t (j + 1) w m q1 q2)
theorem LL.dp {K : PySem.W.Frag} {H : Hp} {L : Addr} {us : List Addr} {ls : List (List Nat)} (h : LL H L us ls) : Dp K H (.ref L) (.list (ls.map numsD)) :=
  .lst (SqL.of h.e) (dpAll_of h.n fun j u l q1 q2 => (h.t j u l q1 q2).1)
theorem lists_can : ∀ ls : List (List Nat), PyData.canLayAll0 (ls.map numsD) = true
  | [] => rfl
  | x :: l => by
    show (PyData.canLay0 (numsD x) && PyData.canLayAll0 (l.map numsD)) = true
    rw [lists_can l, Bool.and_true]
    exact nums_can x
theorem lists_deep : ∀ ls : List (List Nat), PyData.depthAll (ls.map numsD) ≤ 1
  | [] => Nat.zero_le _
  | x :: l => by
    show max (PyData.depth (numsD x)) (PyData.depthAll (l.map numsD)) ≤ 1
    have h1 : PyData.depth (numsD x) = 1 := by
      show PyData.depthAll (x.map fun n : Nat => PyData.int (n : Int)) + 1 = 1
      rw [nums_deep]
    have h2 := lists_deep l
    omega
theorem lists_shaped (ls : List (List Nat)) : SeqAt.shaped (.list (ls.map numsD)) = true := by
  unfold SeqAt.shaped
  have e : PyData.canLay0 (.list (ls.map numsD)) = true := lists_can ls
  have d : PyData.depth (.list (ls.map numsD)) = PyData.depthAll (ls.map numsD) + 1 := rfl
  have h := lists_deep ls
  rw [e, Bool.true_and, d]
  exact decide_eq_true (by omega)
theorem eq_none (ls : List (List Nat)) : PyData.eqv (.list (ls.map numsD)) (.list []) = decide (ls = []) := by
  cases ls with
  | nil => rfl
  | cons x l => rfl
/-- a list of what bits may be, under way -/
structure Bu (H0 H' : Hp) (L : Addr) (F : F2) (i : Nat) (ts : List Addr) : Prop where
  k : Kept None H0 H'
  l : H' L = some (.lst (ts.map V.ref))
  n : ts.length = i
  t : ∀ (j : Nat) (t : Addr), ts[j]? = some t → H' t = some (.lst (nums (bs F j))) ∧ t ≠ L
theorem Bu.stay {H0 H' H2 : Hp} {L : Addr} {F : F2} {i : Nat} {ts : List Addr} (b : Bu H0 H' L F i ts) (k : Kept None H' H2) : Bu H0 H2 L F i ts :=
  ⟨b.k.trans k, k.lst b.l fun z => z, b.n, fun j t e => ⟨k.lst (b.t j t e).1 fun z => z, (b.t j t e).2⟩⟩
theorem Bu.put {H0 H' : Hp} {L : Addr} {F : F2} {i : Nat} {ts : List Addr} (b : Bu H0 H' L F i ts) (nL : H0 L = none) {t : Addr} (e : H' t = some (.lst (nums (bs F i)))) (ne : t ≠ L) : Bu H0 (upd H' L (.lst (ts.map V.ref ++ [.ref t]))) L F (i + 1) (ts ++ [t]) where
  k := b.k.new nL
  l := by rw [upd_same, List.map_append]; rfl
  n := by rw [List.length_append, b.n]; rfl
  t := fun j u q => by
    by_cases hj : j < ts.length
    · rw [List.getElem?_append_left hj] at q
      obtain ⟨f1, f2⟩ := b.t j u q
      exact ⟨by rw [upd_ne f2]; exact f1, f2⟩
    · have hj2 : j = ts.length := by
        have := (List.getElem?_eq_some_iff.mp q).1
        rw [List.length_append] at this
        simp only [List.length_cons, List.length_nil] at this
        omega
      subst hj2
      rw [List.getElem?_append_right (Nat.le_refl _), Nat.sub_self] at q
      have eb : t = u := Option.some.inj q
      subst eb
      exact ⟨by rw [upd_ne ne, b.n]; exact e, ne⟩
theorem Bu.bl {H0 H' : Hp} {L : Addr} {F : F2} {v : Nat} {ts : List Addr} (b : Bu H0 H' L F v ts) : BL H' L v F := ⟨ts, b.n, b.l, fun j t e => (b.t j t e).1⟩
theorem Bu.new {H0 : Hp} {L : Addr} {F : F2} (h : H0 L = none) : Bu H0 (upd H0 L (.lst [])) L F 0 [] := ⟨Kept.refl.new h, upd_same, rfl, fun j t e => by cases e⟩
theorem BD.get {H : Hp} {a : Addr} {ks : List PySem.Str} {w : Nat} {g : PySem.Str → F2} (h : BD H a ks w g) {x : PySem.Str} (hx : x ∈ ks) : ∃ p, DGet H a (.str x) (some (.ref p)) ∧ BL H p w (g x) := by
  obtain ⟨kvs, pa, e, h⟩ := h.ex
  obtain ⟨h1, h2⟩ := h x hx
  refine ⟨pa x, ?_, h2⟩
  have := DGet.k (k := (Sum.inr x : Key)) e
  rw [h1] at this
  exact this
def rInt1 : List V → Hp → VK → Prop := fun xs H Q => (∃ i, xs = [.int i] ∧ Q (.int i) H) ∨ ∃ k, xs = [.bl k] ∧ Q (.int (if k then 1 else 0)) H
theorem cr_int1 {X : Cx} : CallR X (.type "int") rInt1 := call_int1
abbrev sLDue : Stmt := top 38
abbrev nDue : List PySem.Str := ["wide", "expr", "bits", "word", "one", "other", "rows", "wish", "found", "left", "right", "k", "some", "row", "order", "a", "b"]
theorem scLDue : FnScope ["wide", "expr", "bits", "word", "one", "other", "rows", "wish", "found", "left", "right", "k", "some", "row", "order", "a", "b"] ["wide", "expr", "bits"] (defScope sLDue) := ⟨rfl, rfl, rfl, by decide +kernel, rfl, by decide +kernel, by decide +kernel⟩
def spLDue (K : PySem.W.Frag) : Sp := fun vs H Q _ => ∃ (v : Nat) (E D : Addr) (e : Ex) (ks : List PySem.Str) (g : PySem.Str → F2), vs = [.int (v : Int), .ref E, .ref D] ∧ 1 ≤ v ∧ v ≤ 12 ∧ SqT K H E e.vs ∧ Ex.ok v e ∧ (∀ x ∈ e.names, x ∈ ks) ∧ (∀ x ∈ ks, Fc v (g x)) ∧ BD H D ks v g ∧
  ∀ (p : Addr) (H' : Hp), Kept None H H' → BL H' p v (exF (most v) g e) → Q (.ref p) H'
section
variable {P : Program} {w : World} {K : PySem.W.Frag} {mg : PySem.Str → Option Value} {base : Heap} {f fS fO fB : Addr} {fd fdS fdO fdB : FuncData}
theorem ok_ldue (F : FnP K "_law_due" sLDue f fd) (GLSum : FnOk P w K mg base CX0 1 fS fdS ["ones", "others", "sign"] spLSum) (bLSum : Binds K fdS ["ones", "others", "sign"] []) (kLSum : PySem.W.keepIn K (.ref fS) = true) (gLSum : mg "_law_sum" = some (.ref fS))
    (GLOrders : FnOk P w K mg base CX0 1 fO fdO ["ones", "others"] spLOrders) (bLOrders : Binds K fdO ["ones", "others"] []) (kLOrders : PySem.W.keepIn K (.ref fO) = true) (gLOrders : mg "_law_orders" = some (.ref fO))
    (GLByBits : FnOk P w K mg base CX0 1 fB fdB ["word", "one", "other"] spLBy) (bLByBits : Binds K fdB ["word", "one", "other"] []) (kLByBits : PySem.W.keepIn K (.ref fB) = true) (gLByBits : mg "_law_by_bits" = some (.ref fB))
    (m_range : mg "range" = none) (m_int : mg "int" = none) (m_sorted : mg "sorted" = none) (m_set : mg "set" = none) (m_sum : mg "sum" = none) (m_zip : mg "zip" = none) : FnOk P w K mg base CX0 2 f fd ["wide", "expr", "bits"] (spLDue K) := by
  refine F.ok (k := 1) scLDue (fun vs H Q E h => ?_) (fun cdv A outer s H vs Q E hr h => ?_)
  · obtain ⟨v, E, D, e, ks, g, rfl, _⟩ := h
    rfl
  · obtain ⟨v, E, D, e, ks, g, rfl, v1, v2, hE, ok, nm, fc, hD, q⟩ := h
    have hu := hu_of hr
    refine ⟨_, PSs.nox (pss_cons (ps_set (i := 3) scLDue.nd rfl (Or.inr rfl) (pe_ix ix_tup (pv 1) pe_int (fun _ _ => rfl)))
    (pss_cons (ps_if (pt_cmpR op_eq (pv 3) pe_str (nomark _))
      (pss_one (ps_ret (pe_lc (own := [("k", 11)]) (g := gName 11) (tt := tYes) (te := tLst (tCons (tOp rAndN (tOp rShrN (tOp (rIxT K) (tVar 1) (tC (.int 1))) (tVar 11)) (tC (.int 1))) tNil)) rfl scLDue.nd (pi_range1 rfl m_range (pa_cons (pv 0) pa_nil)) (blkOk_by (own := [("k", 11)]) (N := nDue) (sc := defScope sLDue) (by decide +kernel)) (by exact (fun _ _ _ _ _ => (pg_name (i := 11) scLDue.nd rfl (Or.inl rfl)))) (by exact (fun _ _ _ _ _ => pts_nil)) (by exact (fun _ _ _ _ _ => (pe_lst (pa_cons (pe_op n_and (pe_op n_shr (pe_ix (r := rIxT K) ix_tup (pv 1) pe_int (fun _ _ => rfl)) (pv 11)) pe_int) pa_nil)))))))
      pss_nil)
    (pss_cons (ps_set (i := 4) scLDue.nd rfl (Or.inl rfl) (pe_dget hu (pv 2) (pe_ix ix_tup (pv 1) pe_int (fun _ _ => rfl)) (fun _ _ => rfl)))
    (pss_cons (ps_if (pt_cmpR op_eq (pv 3) pe_str (nomark _))
      (pss_one (ps_ret (pv 4)))
      pss_nil)
    (pss_cons (ps_if (pt_cmpR op_eq (pv 3) pe_str (nomark _))
      (pss_one (ps_ret (pe_slice sl_list (pe_op op_cat (pe_op op_rep (pe_lst (pa_cons (pe_lst (pa_cons pe_int pa_nil)) pa_nil)) (pe_ix ix_tup (pv 1) pe_int (fun _ _ => rfl))) (pv 4)) po_none (po_some (pv 0)))))
      pss_nil)
    (pss_cons (ps_if (pt_cmpR op_eq (pv 3) pe_str (nomark _))
      (pss_one (ps_ret (pe_slice sl_list (pe_op op_cat (pe_slice sl_list (pv 4) (po_some (pe_ix ix_tup (pv 1) pe_int (fun _ _ => rfl))) po_none) (pe_op op_rep (pe_lst (pa_cons (pe_lst (pa_cons pe_int pa_nil)) pa_nil)) (pv 0))) po_none (po_some (pv 0)))))
      pss_nil)
    (pss_cons (ps_set (i := 5) scLDue.nd rfl (Or.inl rfl) (pe_dget hu (pv 2) (pe_ix ix_tup (pv 1) pe_int (fun _ _ => rfl)) (fun _ _ => rfl)))
    (pss_cons (ps_if (pt_cmpR op_eq (pv 3) pe_str (nomark _))
      (pss_cons (ps_set (i := 6) scLDue.nd rfl (Or.inr rfl) (pe_op op_rep (pe_lst (pa_cons (pe_dget hu (pv 2) (pe_ix ix_tup (pv 1) pe_int (fun _ _ => rfl)) (fun _ _ => rfl)) pa_nil)) (pe_callTy cr_int1 (by rfl) m_int (by decide +kernel) (pa_cons (pe_cmpR (op_neD hr.units) (pe_lc (own := [("some", 12)]) (g := gName 12) (tt := tTest (tOp (rIn K false) (tC (.int 1)) (tVar 12))) (te := tVar 12) rfl scLDue.nd (pi_list (pv 4)) (blkOk_by (own := [("some", 12)]) (N := nDue) (sc := defScope sLDue) (by decide +kernel)) (by exact (fun _ _ _ _ _ => (pg_name (i := 12) scLDue.nd rfl (Or.inl rfl)))) (by exact (fun _ _ _ _ _ => (pts_one (pt_cmpR op_in_seq pe_int (pv 12) (by rfl))))) (by exact (fun _ _ _ _ _ => (pv 12)))) (pe_lst pa_nil) (nomark _)) pa_nil))))
      (pss_cons (ps_set (i := 6) scLDue.nd rfl (Or.inr rfl) (pe_op op_cat (pv 6) (pe_op op_rep (pe_lst (pa_cons (pe_dget hu (pv 2) (pe_ix ix_tup (pv 1) pe_int (fun _ _ => rfl)) (fun _ _ => rfl)) pa_nil)) (pe_callTy cr_int1 (by rfl) m_int (by decide +kernel) (pa_cons (pe_cmpR (op_eqD hr.units) (pe_lc (own := [("some", 12)]) (g := gName 12) (tt := tTest (tOp (rEqD K) (tVar 12) (tLst (tCons (tC (.int 1)) tNil)))) (te := tVar 12) rfl scLDue.nd (pi_list (pv 4)) (blkOk_by (own := [("some", 12)]) (N := nDue) (sc := defScope sLDue) (by decide +kernel)) (by exact (fun _ _ _ _ _ => (pg_name (i := 12) scLDue.nd rfl (Or.inl rfl)))) (by exact (fun _ _ _ _ _ => (pts_one (pt_cmpR (op_eqD hr.units) (pv 12) (pe_lst (pa_cons pe_int pa_nil)) (nomark _))))) (by exact (fun _ _ _ _ _ => (pv 12)))) (pe_lst pa_nil) (nomark _)) pa_nil)))))
      (pss_one (ps_ret (pe_lc (own := [("k", 11)]) (g := gName 11) (tt := tYes) (te := tCB (rSortedSet w) (tCons (tCB (rSetL K w) (tCons (tCB rSumL (tCons (tLc (iList K (tVar 6)) (gName 13) tYes (tOp (rIxL K) (tVar 13) (tVar 11)) [13]) (tCons (tLst tNil) tNil))) tNil)) tNil)) rfl scLDue.nd (pi_range1 rfl m_range (pa_cons (pv 0) pa_nil)) (blkOk_by (own := [("k", 11)]) (N := nDue) (sc := defScope sLDue) (by decide +kernel)) (by exact (fun _ _ _ _ _ => (pg_name (i := 11) scLDue.nd rfl (Or.inr rfl)))) (by exact (fun _ _ _ _ _ => pts_nil)) (by exact (fun _ _ _ _ _ => (pe_callB (cr_sortedSet rfl) (by rfl) m_sorted (by decide +kernel) (pa_cons (pe_callTy (cr_setL rfl) (by rfl) m_set (by decide +kernel) (pa_cons (pe_callB (cr_sumL rfl) (by rfl) m_sum (by decide +kernel) (pa_cons (pe_lc (own := [("row", 13)]) (g := gName 13) (tt := tYes) (te := tOp (rIxL K) (tVar 13) (tVar 11)) rfl scLDue.nd (pi_list (pv 6)) (blkOk_by (own := [("row", 13)]) (N := nDue) (sc := scK) (by decide +kernel)) (by exact (fun _ _ _ _ _ => (pg_name (i := 13) scLDue.nd rfl (Or.inl rfl)))) (by exact (fun _ _ _ _ _ => pts_nil)) (by exact (fun _ _ _ _ _ => (pe_ix (r := rIxL K) ix_list (pv 13) (pv 11) (fun _ _ => rfl))))) (pa_cons (pe_lst pa_nil) pa_nil))) pa_nil)) pa_nil)))))))))
      pss_nil)
    (pss_cons (ps_if (pt_cmpR op_in_seq (pv 3) (pe_tup (pa_cons pe_str (pa_cons pe_str pa_nil))) (by rfl))
      (pss_one (ps_ret (pe_call GLSum hr (by rfl) gLSum kLSum bLSum .nil pass0 (pa_cons (pv 4) (pa_cons (pv 5) (pa_cons (pe_ix ix_list (pe_lst (pa_cons pe_int (pa_cons (pe_un un_neg pe_int) pa_nil))) (pe_callTy cr_int1 (by rfl) m_int (by decide +kernel) (pa_cons (pe_cmpR op_eq (pv 3) pe_str (nomark _)) pa_nil)) (fun _ _ => rfl)) pa_nil))))))
      pss_nil)
    (pss_cons (ps_if (pt_cmpR op_in_seq (pv 3) (pe_tup (pa_cons pe_str (pa_cons pe_str pa_nil))) (by rfl))
      (pss_cons (ps_set (i := 7) scLDue.nd rfl (Or.inr rfl) (pe_ix ix_list (pe_lst (pa_cons pe_int (pa_cons pe_int pa_nil))) (pe_callTy cr_int1 (by rfl) m_int (by decide +kernel) (pa_cons (pe_cmpR op_eq (pv 3) pe_str (nomark _)) pa_nil)) (fun _ _ => rfl)))
      (pss_one (ps_ret (pe_op op_cat (pe_lst (pa_cons (pe_callB (cr_sortedSet rfl) (by rfl) m_sorted (by decide +kernel) (pa_cons (pe_callTy (cr_setL rfl) (by rfl) m_set (by decide +kernel) (pa_cons (pe_lc (own := [("order", 14)]) (g := gName 14) (tt := tYes) (te := tCB rInt1 (tCons (tOp rEqN (tVar 14) (tVar 7)) tNil)) rfl scLDue.nd (pi_list (pe_call GLOrders hr (by rfl) gLOrders kLOrders bLOrders .nil pass0 (pa_cons (pv 4) (pa_cons (pv 5) pa_nil)))) (blkOk_by (own := [("order", 14)]) (N := nDue) (sc := defScope sLDue) (by decide +kernel)) (by exact (fun _ _ _ _ _ => (pg_name (i := 14) scLDue.nd rfl (Or.inl rfl)))) (by exact (fun _ _ _ _ _ => pts_nil)) (by exact (fun _ _ _ _ _ => (pe_callTy cr_int1 (by rfl) m_int (by decide +kernel) (pa_cons (pe_cmpR n_eq (pv 14) (pv 7) (nomark _)) pa_nil))))) pa_nil)) pa_nil)) pa_nil)) (pe_op op_rep (pe_lst (pa_cons (pe_lst (pa_cons pe_int pa_nil)) pa_nil)) (pe_op op_sub (pv 0) pe_int))))))
      pss_nil)
    (pss_cons (ps_set (i := 8) scLDue.nd rfl (Or.inl rfl) (pe_lst pa_nil))
    (pss_cons (ps_for PassesOwn.never rfl (pi_zip (by rfl) m_zip (pa_cons (pv 4) (pa_cons (pv 5) pa_nil))) (pg_tup rfl (pgs_cons (pg_name (i := 9) scLDue.nd rfl (Or.inr rfl)) (pgs_cons (pg_name (i := 10) scLDue.nd rfl (Or.inl rfl)) pgs_nil)))
      (pss_one (ps_expr (pe_bm PySem.F.plainAttrs_list PySem.F.slot_list_append PySem.F.type_list_append mt_append (pv 8) (pa_cons (pe_callB (cr_sortedSet rfl) (by rfl) m_sorted (by decide +kernel) (pa_cons (pe_callTy (cr_setL rfl) (by rfl) m_set (by decide +kernel) (pa_cons (pe_callB (cr_sumL rfl) (by rfl) m_sum (by decide +kernel) (pa_cons (pe_lc (own := [("b", 16)]) (g := gName 16) (tt := tYes) (te := tLc (iList K (tVar 9)) (gName 15) tYes (tCall spLBy [] E0 (tCons (tVar 3) (tCons (tVar 15) (tCons (tVar 16) tNil)))) [15]) rfl scLDue.nd (pi_list (pv 10)) (blkOk_by (own := [("b", 16)]) (N := nDue) (sc := defScope sLDue) (by decide +kernel)) (by exact (fun _ _ _ _ _ => (pg_name (i := 16) scLDue.nd rfl (Or.inr rfl)))) (by exact (fun _ _ _ _ _ => pts_nil)) (by exact (fun _ _ _ _ _ => (pe_lc (own := [("a", 15)]) (g := gName 15) (tt := tYes) (te := tCall spLBy [] E0 (tCons (tVar 3) (tCons (tVar 15) (tCons (tVar 16) tNil)))) rfl scLDue.nd (pi_list (pv 9)) (blkOk_by (own := [("a", 15)]) (N := nDue) (sc := scB) (by decide +kernel)) (by exact (fun _ _ _ _ _ => (pg_name (i := 15) scLDue.nd rfl (Or.inl rfl)))) (by exact (fun _ _ _ _ _ => pts_nil)) (by exact (fun _ _ _ _ _ => (pe_call GLByBits hr (by rfl) gLByBits kLByBits bLByBits .nil pass0 (pa_cons (pv 3) (pa_cons (pv 15) (pa_cons (pv 16) pa_nil)))))))))) (pa_cons (pe_lst pa_nil) pa_nil))) pa_nil)) pa_nil)) pa_nil)))))
    (pss_one (ps_ret (pv 8))))))))))))))), ?_⟩
    refine ⟨.ref E, rfl, E, e.vs, 0, .str e.word, rfl, rfl, hE, atI_nat (j := 0) rfl, ?_⟩
    have hsz := sizeLine_eq
    cases e with
    | num n =>
      refine ⟨.str "number", rfl, rfl, _, rfl, ite2 (fun _ => ?_) (fun y => absurd (decide_eq_true rfl) y)⟩
      refine ⟨.int (v : Int), rfl, (v : Int), rfl, by omega, by omega, fun L hL => ?_⟩
      refine lc_range (lo := 0) (n := v) (fun i H' => ∃ ts, Bu H H' L (exF (most v) g (.num n)) i ts) ⟨[], Bu.new hL⟩ (fun i H' hi h => ?_) (fun H' h => ?_)
      · obtain ⟨ts, b⟩ := h
        have si : (0 : Int) + (i : Int) = (i : Int) := Int.zero_add _
        refine ⟨rfl, .ref E, rfl, E, _, 1, .int (n : Int), rfl, rfl, b.k.sqt hE fun z => z, atI_nat (j := 1) rfl, .int (0 + (i : Int)), rfl, n, i, rfl, by rw [si], n >>> i, 1, rfl, rfl, (show 1 ≤ sizeLine by decide), fun t ht => ?_⟩
        have kt : Kept None H' (upd H' t (.lst [.int ((n >>> i &&& 1 : Nat) : Int)])) := Kept.refl.new ht
        have b2 := b.stay kt
        have et : upd H' t (.lst [.int ((n >>> i &&& 1 : Nat) : Int)]) t = some (.lst (nums (bs (exF (most v) g (.num n)) i))) := by
          have e1 : bs (exF (most v) g (.num n)) i = [b01 (B n i)] := num_bits ok hi
          rw [upd_same, e1, b01_div, ← Nat.shiftRight_eq_div_pow, ← Nat.and_one_is_mod]; rfl
        have ne : t ≠ L := (ne_of_none b.l ht).symm
        exact ⟨ts.map V.ref, b2.l, by rw [List.length_map, b.n]; omega, _, b2.put hL et ne⟩
      · obtain ⟨ts, b⟩ := h
        exact q L H' b.k b.bl
    | copy y =>
      obtain ⟨p, dg, bl⟩ := hD.get (nm y (by simp [Ex.names]))
      refine ⟨.str "copy", rfl, rfl, _, rfl, ite2 (fun h => absurd h (noS (by decide))) (fun _ => ?_)⟩
      refine ⟨.ref D, rfl, .ref E, rfl, E, _, 1, .str y, rfl, rfl, hE, atI_nat (j := 1) rfl, D, .ref p, rfl, dg, ?_⟩
      refine ⟨.str "copy", rfl, rfl, _, rfl, ite2 (fun _ => ?_) (fun y => absurd (decide_eq_true rfl) y)⟩
      exact ⟨.ref p, rfl, q p H Kept.refl bl⟩
    | up y k =>
      obtain ⟨p, dg, bl⟩ := hD.get (nm y (by simp [Ex.names]))
      have cy := fc y (nm y (by simp [Ex.names]))
      have hk : k ≤ 11 := ok
      obtain ⟨ts, n1, n2, n3⟩ := bl.ex
      refine ⟨.str "up", rfl, rfl, _, rfl, ite2 (fun h => absurd h (noS (by decide))) (fun _ => ?_)⟩
      refine ⟨.ref D, rfl, .ref E, rfl, E, _, 1, .str y, rfl, rfl, hE, atI_nat (j := 1) rfl, D, .ref p, rfl, dg, ?_⟩
      refine ⟨.str "up", rfl, rfl, _, rfl, ite2 (fun h => absurd h (noS (by decide))) (fun _ => ?_)⟩
      refine ⟨.str "up", rfl, rfl, _, rfl, ite2 (fun _ => ?_) (fun y => absurd (decide_eq_true rfl) y)⟩
      refine ⟨by show 1 ≤ sizeLine; omega, fun t ht => ⟨by show 1 ≤ sizeLine; omega, fun t2 ht2 => ?_⟩⟩
      have k1 : Kept None H (upd (upd H t (.lst [.int 0])) t2 (.lst [.ref t])) := (Kept.refl.new ht).trans (Kept.refl.new ht2)
      have et : upd (upd H t (.lst [.int 0])) t2 (.lst [.ref t]) t = some (.lst (nums [0])) := by
        rw [upd_ne (fun e => by rw [← e, upd_same] at ht2; cases ht2), upd_same]; rfl
      have et2 : upd (upd H t (.lst [.int 0])) t2 (.lst [.ref t]) t2 = some (.lst [.ref t]) := upd_same
      generalize upd (upd H t (.lst [.int 0])) t2 (.lst [.ref t]) = H1 at k1 et et2 ⊢
      refine ⟨.ref E, rfl, E, _, 2, .int (k : Int), rfl, rfl, k1.sqt hE fun z => z, atI_nat (j := 2) rfl, t2, (k : Int), [.ref t], rfl, rfl, et2, by omega, by omega, by rw [Int.toNat_natCast]; show 1 * k ≤ sizeLine; omega, fun p1 hp1 => ?_⟩
      rw [Int.toNat_natCast, rep_one]
      have k2 : Kept None H1 (upd H1 p1 (.lst ((List.replicate k t).map V.ref))) := Kept.refl.new hp1
      have e1 : upd H1 p1 (.lst ((List.replicate k t).map V.ref)) p1 = some (.lst ((List.replicate k t).map V.ref)) := upd_same
      generalize upd H1 p1 (.lst ((List.replicate k t).map V.ref)) = H2 at k2 e1 ⊢
      have n2' := (k1.trans k2).lst n2 fun z => z
      refine ⟨.ref p, rfl, p1, p, _, _, rfl, rfl, e1, n2', by rw [List.length_map, List.length_map, List.length_replicate, n1]; omega, fun p2 hp2 => ?_⟩
      refine ⟨.int (v : Int), rfl, v, rfl, p2, _, rfl, SqL.of upd_same, fun p3 hp3 => ?_⟩
      have k4 := (k2.trans (Kept.refl.new hp2 (o := .lst ((List.replicate k t).map V.ref ++ ts.map V.ref)))).trans (Kept.refl.new hp3 (o := .lst (cutV ((List.replicate k t).map V.ref ++ ts.map V.ref) none (some (v : Int)))))
      refine q p3 _ (k1.trans k4) ⟨(List.replicate k t ++ ts).take v, by rw [List.length_take, List.length_append, List.length_replicate, n1]; omega, by rw [upd_same, take_cut, ← List.map_append, List.map_take], fun i u hu => ?_⟩
      have hi : i < v := by
        have := (List.getElem?_eq_some_iff.mp hu).1
        rw [List.length_take] at this
        omega
      rw [List.getElem?_take_of_lt hi] at hu
      have eb : bs (exF (most v) g (.up y k)) i = if i < k then [0] else bs (g y) (i - k) := up_bits cy hi
      rw [eb]
      by_cases h : i < k
      · rw [List.getElem?_append_left (by rw [List.length_replicate]; exact h), List.getElem?_replicate, if_pos h] at hu
        cases hu
        rw [if_pos h]
        exact k4.lst et fun z => z
      · rw [List.getElem?_append_right (by rw [List.length_replicate]; omega), List.length_replicate] at hu
        rw [if_neg h]
        exact (k1.trans k4).lst (n3 _ _ hu) fun z => z
    | down y k =>
      obtain ⟨p, dg, bl⟩ := hD.get (nm y (by simp [Ex.names]))
      have cy := fc y (nm y (by simp [Ex.names]))
      have hk : k ≤ 11 := ok
      obtain ⟨ts, n1, n2, n3⟩ := bl.ex
      refine ⟨.str "down", rfl, rfl, _, rfl, ite2 (fun h => absurd h (noS (by decide))) (fun _ => ?_)⟩
      refine ⟨.ref D, rfl, .ref E, rfl, E, _, 1, .str y, rfl, rfl, hE, atI_nat (j := 1) rfl, D, .ref p, rfl, dg, ?_⟩
      refine ⟨.str "down", rfl, rfl, _, rfl, ite2 (fun h => absurd h (noS (by decide))) (fun _ => ?_)⟩
      refine ⟨.str "down", rfl, rfl, _, rfl, ite2 (fun h => absurd h (noS (by decide))) (fun _ => ?_)⟩
      refine ⟨.str "down", rfl, rfl, _, rfl, ite2 (fun _ => ?_) (fun y => absurd (decide_eq_true rfl) y)⟩
      refine ⟨.ref p, rfl, .ref E, rfl, E, _, 2, .int (k : Int), rfl, rfl, hE, atI_nat (j := 2) rfl, k, rfl, p, _, rfl, SqL.of n2, fun p0 hp0 => ?_⟩
      have k0 : Kept None H (upd H p0 (.lst (cutV (ts.map V.ref) (some (k : Int)) none))) := Kept.refl.new hp0
      have e0 : upd H p0 (.lst (cutV (ts.map V.ref) (some (k : Int)) none)) p0 = some (.lst ((ts.drop k).map V.ref)) := by rw [upd_same, drop_cut, List.map_drop]
      generalize upd H p0 (.lst (cutV (ts.map V.ref) (some (k : Int)) none)) = H0 at k0 e0 ⊢
      refine ⟨by show 1 ≤ sizeLine; omega, fun t ht => ⟨by show 1 ≤ sizeLine; omega, fun t2 ht2 => ?_⟩⟩
      have k1 : Kept None H0 (upd (upd H0 t (.lst [.int 0])) t2 (.lst [.ref t])) := (Kept.refl.new ht).trans (Kept.refl.new ht2)
      have et : upd (upd H0 t (.lst [.int 0])) t2 (.lst [.ref t]) t = some (.lst (nums [0])) := by
        rw [upd_ne (fun e => by rw [← e, upd_same] at ht2; cases ht2), upd_same]; rfl
      have et2 : upd (upd H0 t (.lst [.int 0])) t2 (.lst [.ref t]) t2 = some (.lst [.ref t]) := upd_same
      generalize upd (upd H0 t (.lst [.int 0])) t2 (.lst [.ref t]) = H1 at k1 et et2 ⊢
      refine ⟨.int (v : Int), rfl, t2, (v : Int), [.ref t], rfl, rfl, et2, by omega, by omega, by rw [Int.toNat_natCast]; show 1 * v ≤ sizeLine; omega, fun p1 hp1 => ?_⟩
      rw [Int.toNat_natCast, rep_one]
      have k2 : Kept None H1 (upd H1 p1 (.lst ((List.replicate v t).map V.ref))) := Kept.refl.new hp1
      have e1 : upd H1 p1 (.lst ((List.replicate v t).map V.ref)) p1 = some (.lst ((List.replicate v t).map V.ref)) := upd_same
      generalize upd H1 p1 (.lst ((List.replicate v t).map V.ref)) = H2 at k2 e1 ⊢
      have e0' := (k1.trans k2).lst e0 fun z => z
      refine ⟨p0, p1, _, _, rfl, rfl, e0', e1, by rw [List.length_map, List.length_map, List.length_replicate, List.length_drop, n1]; omega, fun p2 hp2 => ?_⟩
      refine ⟨.int (v : Int), rfl, v, rfl, p2, _, rfl, SqL.of upd_same, fun p3 hp3 => ?_⟩
      have k4 := (k2.trans (Kept.refl.new hp2 (o := .lst ((ts.drop k).map V.ref ++ (List.replicate v t).map V.ref)))).trans (Kept.refl.new hp3 (o := .lst (cutV ((ts.drop k).map V.ref ++ (List.replicate v t).map V.ref) none (some (v : Int)))))
      refine q p3 _ ((k0.trans k1).trans k4) ⟨(ts.drop k ++ List.replicate v t).take v, by rw [List.length_take, List.length_append, List.length_replicate, List.length_drop, n1]; omega, by rw [upd_same, take_cut, ← List.map_append, List.map_take], fun i u hu => ?_⟩
      have hi : i < v := by
        have := (List.getElem?_eq_some_iff.mp hu).1
        rw [List.length_take] at this
        omega
      rw [List.getElem?_take_of_lt hi] at hu
      have eb : bs (exF (most v) g (.down y k)) i = if i + k < v then bs (g y) (i + k) else [0] := down_bits cy hi
      rw [eb]
      by_cases h : i + k < v
      · rw [List.getElem?_append_left (by rw [List.length_drop, n1]; omega), List.getElem?_drop, Nat.add_comm] at hu
        rw [if_pos h]
        exact ((k0.trans k1).trans k4).lst (n3 _ _ hu) fun z => z
      · rw [List.getElem?_append_right (by rw [List.length_drop, n1]; omega), List.length_drop, List.getElem?_replicate, n1, if_pos (by omega)] at hu
        cases hu
        rw [if_neg h]
        exact k4.lst et fun z => z
    | pick c y z =>
      have hyk := nm y (by simp [Ex.names])
      have hzk := nm z (by simp [Ex.names])
      obtain ⟨p, dg, bl⟩ := hD.get (nm c (by simp [Ex.names]))
      obtain ⟨r, dg2, bl2⟩ := hD.get hyk
      have cc := fc c (nm c (by simp [Ex.names]))
      have cy := fc y hyk
      have cz := fc z hzk
      refine ⟨.str "pick", rfl, rfl, _, rfl, ite2 (fun h => absurd h (noS (by decide))) (fun _ => ?_)⟩
      refine ⟨.ref D, rfl, .ref E, rfl, E, _, 1, .str c, rfl, rfl, hE, atI_nat (j := 1) rfl, D, .ref p, rfl, dg, ?_⟩
      refine ⟨.str "pick", rfl, rfl, _, rfl, ite2 (fun h => absurd h (noS (by decide))) (fun _ => ?_)⟩
      refine ⟨.str "pick", rfl, rfl, _, rfl, ite2 (fun h => absurd h (noS (by decide))) (fun _ => ?_)⟩
      refine ⟨.str "pick", rfl, rfl, _, rfl, ite2 (fun h => absurd h (noS (by decide))) (fun _ => ?_)⟩
      refine ⟨.ref D, rfl, .ref E, rfl, E, _, 2, .str y, rfl, rfl, hE, atI_nat (j := 2) rfl, D, .ref r, rfl, dg2, ?_⟩
      refine ⟨.str "pick", rfl, rfl, _, rfl, ite2 (fun _ => ?_) (fun y => absurd (decide_eq_true rfl) y)⟩
      -- the rows by what c may be
      refine ⟨.ref D, rfl, .ref E, rfl, E, _, 2, .str y, rfl, rfl, hE, atI_nat (j := 2) rfl, D, .ref r, rfl, dg2, (show 1 ≤ sizeLine by decide), fun t1 ht1 => ?_⟩
      have k1 : Kept None H (upd H t1 (.lst [.ref r])) := Kept.refl.new ht1
      have e1 : upd H t1 (.lst [.ref r]) t1 = some (.lst [.ref r]) := upd_same
      generalize upd H t1 (.lst [.ref r]) = H1 at k1 e1 ⊢
      obtain ⟨ts, n1, n2, n3⟩ := (bl.kept k1 fun _ z => z).ex
      refine ⟨.ref p, rfl, p, rfl, ⟨_, SqL.of n2⟩, fun L hL => ?_⟩
      refine lc_list (K := K) (a := p) (xs := ts.map V.ref) (fun i H' => ∃ us ls, Kept None H1 H' ∧ LL H' L us ls ∧ us.length ≤ i ∧ (ls ≠ [] ↔ ∃ j, j < i ∧ 1 ∈ bs (g c) j)) ⟨[], [], Kept.refl.new hL, ⟨upd_same, rfl, fun j u l e => by cases e⟩, Nat.le_refl _, ⟨fun h => absurd rfl h, fun ⟨j, h, _⟩ => absurd h (Nat.not_lt_zero _)⟩⟩ (fun i H' _ h => ?_) (fun i x H' hx h => ?_) (fun H' h => ?_)
      · obtain ⟨_, _, k2, _⟩ := h
        exact SqL.of (k2.lst n2 fun z => z)
      · obtain ⟨us, ls, k2, ll, lu, hP⟩ := h
        rw [List.getElem?_map] at hx
        obtain ⟨t, ht, rfl⟩ := Option.map_eq_some_iff.mp hx
        have et := k2.lst (n3 i t ht) fun z => z
        have ne : t ≠ L := ne_of_none (n3 i t ht) hL
        have hi : i < v := by rw [← n1]; exact (List.getElem?_eq_some_iff.mp ht).1
        refine ⟨rfl, .ref t, rfl, t, _, rfl, .inl (SqL.of et), rfl, flat_nums _, _, rfl, ?_⟩
        rw [if_neg Bool.false_ne_true, show (1 : Int) = ((1 : Nat) : Int) from rfl, inV_nums]
        refine ite2 (fun h => ?_) (fun h => ?_)
        · refine ⟨.ref t, rfl, us.map V.ref, ll.e, by rw [List.length_map]; omega, us ++ [t], ls ++ [bs (g c) i], k2.new hL, ll.put et ne, by rw [List.length_append]; exact Nat.succ_le_succ lu, ?_⟩
          exact ⟨fun _ => ⟨i, Nat.lt_succ_self _, of_decide_eq_true h⟩, fun _ h => by simp at h⟩
        · refine ⟨us, ls, k2, ll, by omega, hP.trans ⟨fun ⟨j, h1, h2⟩ => ⟨j, by omega, h2⟩, fun ⟨j, h1, h2⟩ => ⟨j, ?_, h2⟩⟩⟩
          rcases Nat.lt_succ_iff_lt_or_eq.mp h1 with q | q
          · exact q
          · rw [q] at h2
            exact absurd (decide_eq_true h2) h
      · obtain ⟨us, ls, k2, ll, lu, hP⟩ := h
        rw [List.length_map, n1] at hP lu
        refine ⟨by show 0 ≤ sizeLine; omega, fun z0 hz0 => ?_⟩
        have k3 : Kept None H' (upd H' z0 (.lst [])) := Kept.refl.new hz0
        have ez : upd H' z0 (.lst []) z0 = some (.lst []) := upd_same
        generalize upd H' z0 (.lst []) = H2 at k3 ez ⊢
        refine ⟨_, _, (ll.kept k3).dp, .lst (SqL.of ez) .nil, lists_shaped ls, rfl, .inr ⟨_, rfl, t1, _, [.ref r], rfl, rfl, (k2.trans k3).lst e1 fun z => z, ?_, ?_, ?_, fun p1 hp1 => ?_⟩⟩
        · split <;> decide
        · split <;> decide
        · split <;> (show _ ≤ sizeLine; simp [hsz])
        obtain ⟨Pb, hPb, eRep⟩ : ∃ Pb : Bool, (Pb = true ↔ ∃ j, j < v ∧ 1 ∈ bs (g c) j) ∧ (List.replicate (if (!PyData.eqv (.list (ls.map numsD)) (.list [])) = true then (1 : Int) else 0).toNat [V.ref r]).flatten = (if Pb = true then [r] else []).map V.ref :=
          ⟨!decide (ls = []), by rw [← hP]; simp, by rw [eq_none]; cases decide (ls = []) <;> rfl⟩
        rw [eRep]
        have k4 : Kept None H (upd H2 p1 (.lst ((if Pb = true then [r] else []).map V.ref))) := ((k1.trans k2).trans k3).trans (Kept.refl.new hp1)
        have e4 : upd H2 p1 (.lst ((if Pb = true then [r] else []).map V.ref)) p1 = some (.lst ((if Pb = true then [r] else []).map V.ref)) := upd_same
        generalize upd H2 p1 (.lst ((if Pb = true then [r] else []).map V.ref)) = H4 at k4 e4 ⊢
        clear eRep hP ll lu k2 k3 ez e1 k1 n2 n3 hL
        obtain ⟨r3, dg3, bl3⟩ := (hD.kept k4).get hzk
        refine ⟨.ref p1, rfl, .ref D, rfl, .ref E, rfl, E, _, 3, .str z, rfl, rfl, k4.sqt hE fun z => z, atI_nat (j := 3) rfl, D, .ref r3, rfl, dg3, (show 1 ≤ sizeLine by decide), fun t1 ht1 => ?_⟩
        have k5 : Kept None H4 (upd H4 t1 (.lst [.ref r3])) := Kept.refl.new ht1
        have e5 : upd H4 t1 (.lst [.ref r3]) t1 = some (.lst [.ref r3]) := upd_same
        generalize upd H4 t1 (.lst [.ref r3]) = H5 at k5 e5 ⊢
        obtain ⟨ts, n1, n2, n3⟩ := (bl.kept (k4.trans k5) fun _ z => z).ex
        refine ⟨.ref p, rfl, p, rfl, ⟨_, SqL.of n2⟩, fun L hL => ?_⟩
        refine lc_list (K := K) (a := p) (xs := ts.map V.ref) (fun i H' => ∃ us ls, Kept None H5 H' ∧ LL H' L us ls ∧ us.length ≤ i ∧ (ls ≠ [] ↔ ∃ j, j < i ∧ bs (g c) j = [1])) ⟨[], [], Kept.refl.new hL, ⟨upd_same, rfl, fun j u l e => by cases e⟩, Nat.le_refl _, ⟨fun h => absurd rfl h, fun ⟨j, h, _⟩ => absurd h (Nat.not_lt_zero _)⟩⟩ (fun i H' _ h => ?_) (fun i x H' hx h => ?_) (fun H' h => ?_)
        · obtain ⟨_, _, k2, _⟩ := h
          exact SqL.of (k2.lst n2 fun z => z)
        · obtain ⟨us, ls, k2, ll, lu, hP⟩ := h
          rw [List.getElem?_map] at hx
          obtain ⟨t, ht, rfl⟩ := Option.map_eq_some_iff.mp hx
          have et := k2.lst (n3 i t ht) fun z => z
          have ne : t ≠ L := ne_of_none (n3 i t ht) hL
          have hi : i < v := by rw [← n1]; exact (List.getElem?_eq_some_iff.mp ht).1
          refine ⟨rfl, .ref t, rfl, (show 1 ≤ sizeLine by decide), fun o1 ho1 => ?_⟩
          have k6 : Kept None H' (upd H' o1 (.lst [.int 1])) := Kept.refl.new ho1
          have e6 : upd H' o1 (.lst [.int 1]) o1 = some (.lst [.int 1]) := upd_same
          generalize upd H' o1 (.lst [.int 1]) = H6 at k6 e6 ⊢
          refine ⟨numsD (bs (g c) i), numsD [1], .lst (SqL.of (k6.lst et fun z => z)) (dpNums _), .lst (SqL.of e6) (dpNums [1]), nums_shaped _, nums_shaped _, _, rfl, ?_⟩
          rw [eq_list]
          have ll6 := ll.kept k6
          refine ite2 (fun h => ?_) (fun h => ?_)
          · refine ⟨.ref t, rfl, us.map V.ref, ll6.e, by rw [List.length_map]; omega, us ++ [t], ls ++ [bs (g c) i], (k2.trans k6).new hL, ll6.put (k6.lst et fun z => z) ne, by rw [List.length_append]; exact Nat.succ_le_succ lu, ?_⟩
            exact ⟨fun _ => ⟨i, Nat.lt_succ_self _, of_decide_eq_true h⟩, fun _ h => by simp at h⟩
          · refine ⟨us, ls, k2.trans k6, ll6, by omega, hP.trans ⟨fun ⟨j, h1, h2⟩ => ⟨j, by omega, h2⟩, fun ⟨j, h1, h2⟩ => ⟨j, ?_, h2⟩⟩⟩
            rcases Nat.lt_succ_iff_lt_or_eq.mp h1 with q | q
            · exact q
            · rw [q] at h2
              exact absurd (decide_eq_true h2) h
        · obtain ⟨us, ls, k2, ll, lu, hP⟩ := h
          rw [List.length_map, n1] at hP lu
          refine ⟨by show 0 ≤ sizeLine; omega, fun z0 hz0 => ?_⟩
          have k3 : Kept None H' (upd H' z0 (.lst [])) := Kept.refl.new hz0
          have ez : upd H' z0 (.lst []) z0 = some (.lst []) := upd_same
          generalize upd H' z0 (.lst []) = H2 at k3 ez ⊢
          refine ⟨_, _, (ll.kept k3).dp, .lst (SqL.of ez) .nil, lists_shaped ls, rfl, .inr ⟨_, rfl, t1, _, [.ref r3], rfl, rfl, (k2.trans k3).lst e5 fun z => z, ?_, ?_, ?_, fun p2 hp2 => ?_⟩⟩
          · split <;> decide
          · split <;> decide
          · split <;> (show _ ≤ sizeLine; simp [hsz])
          obtain ⟨Rb, hRb, eRep⟩ : ∃ Rb : Bool, (Rb = true ↔ ¬ ∃ j, j < v ∧ bs (g c) j = [1]) ∧ (List.replicate (if (PyData.eqv (.list (ls.map numsD)) (.list [])) = true then (1 : Int) else 0).toNat [V.ref r3]).flatten = (if Rb = true then [r3] else []).map V.ref :=
            ⟨decide (ls = []), by rw [← hP]; simp, by rw [eq_none]; cases decide (ls = []) <;> rfl⟩
          rw [eRep]
          have k7 : Kept None H4 (upd H2 p2 (.lst ((if Rb = true then [r3] else []).map V.ref))) := ((k5.trans k2).trans k3).trans (Kept.refl.new hp2)
          have e7 : upd H2 p2 (.lst ((if Rb = true then [r3] else []).map V.ref)) p2 = some (.lst ((if Rb = true then [r3] else []).map V.ref)) := upd_same
          generalize upd H2 p2 (.lst ((if Rb = true then [r3] else []).map V.ref)) = H7 at k7 e7 ⊢
          clear eRep hP ll lu k2 k3 ez e5 k5 n2 n3 hL
          have e4' := k7.lst e4 fun z => z
          refine ⟨p1, p2, _, _, rfl, rfl, e4', e7, ?_, fun R hR => ?_⟩
          · rw [List.length_map, List.length_map]
            cases Pb <;> cases Rb <;> (show _ ≤ sizeLine; simp [hsz])
          have k8 : Kept None H7 (upd H7 R (.lst ((if Pb = true then [r] else []).map V.ref ++ (if Rb = true then [r3] else []).map V.ref))) := Kept.refl.new hR
          have e8 : upd H7 R (.lst ((if Pb = true then [r] else []).map V.ref ++ (if Rb = true then [r3] else []).map V.ref)) R = some (.lst (((if Pb = true then [r] else []) ++ (if Rb = true then [r3] else [])).map V.ref)) := by rw [upd_same, List.map_append]
          generalize upd H7 R (.lst ((if Pb = true then [r] else []).map V.ref ++ (if Rb = true then [r3] else []).map V.ref)) = H8 at k8 e8 ⊢
          have k9 := (k4.trans k7).trans k8
          have by1 := bl2.kept k9 fun _ z => z
          have by2 := bl3.kept (k7.trans k8) fun _ z => z
          obtain ⟨rl, fl, erl, few, rel, flat⟩ : ∃ (rl : List Addr) (fl : List F2), ((if Pb = true then [r] else []) ++ (if Rb = true then [r3] else []) = rl) ∧ (rl.length = fl.length ∧ fl.length ≤ 2) ∧ (∀ (j : Nat) (a : Addr) (f' : F2), rl[j]? = some a → fl[j]? = some f' → BL H8 a v f') ∧ ∀ k, (fl.map fun f' => bs f' k).flatten = (if Pb = true then bs (g y) k else []) ++ (if Rb = true then bs (g z) k else []) := by
            cases Pb with
            | false =>
              cases Rb with
              | false => exact ⟨[], [], rfl, ⟨rfl, Nat.zero_le 2⟩, fun j a f' e => (by cases e), fun k => rfl⟩
              | true =>
                refine ⟨[r3], [g z], rfl, ⟨rfl, (show 1 ≤ 2 by decide)⟩, fun j a f' q1 q2 => ?_, fun k => by simp⟩
                cases j with
                | zero => cases q1; cases q2; exact by2
                | succ j => cases q1
            | true =>
              cases Rb with
              | false =>
                refine ⟨[r], [g y], rfl, ⟨rfl, (show 1 ≤ 2 by decide)⟩, fun j a f' q1 q2 => ?_, fun k => by simp⟩
                cases j with
                | zero => cases q1; cases q2; exact by1
                | succ j => cases q1
              | true =>
                refine ⟨[r, r3], [g y, g z], rfl, ⟨rfl, (show 2 ≤ 2 by decide)⟩, fun j a f' q1 q2 => ?_, fun k => by simp⟩
                match j with
                | 0 => cases q1; cases q2; exact by1
                | 1 => cases q1; cases q2; exact by2
                | j + 2 => cases q1
          rw [erl] at e8
          have bits : ∀ k, k < v → set01 (fl.map fun f' => bs f' k).flatten = bs (exF (most v) g (.pick c y z)) k := fun k hk => by
            rw [flat k]
            exact pick_bits cc cy cz hPb hRb hk
          refine ⟨.int (v : Int), rfl, (v : Int), rfl, by omega, by omega, fun L hL => ?_⟩
          refine lc_range (lo := 0) (n := v) (fun i H' => ∃ ts, Bu H8 H' L (exF (most v) g (.pick c y z)) i ts) ⟨[], Bu.new hL⟩ (fun i H' hi h => ?_) (fun H' h => ?_)
          · obtain ⟨ts, b⟩ := h
            have si : (0 : Int) + (i : Int) = (i : Int) := Int.zero_add _
            have e8' := b.k.lst e8 fun z => z
            refine ⟨rfl, .ref R, rfl, R, rfl, ⟨_, SqL.of e8'⟩, fun L1 hL1 => ?_⟩
            refine lc_list (K := K) (a := R) (xs := rl.map V.ref) (fun m H6 => ∃ us, Kept None H' H6 ∧ LL H6 L1 us ((fl.take m).map fun f' => bs f' i)) ⟨[], Kept.refl.new hL1, upd_same, rfl, fun j u l e => by cases e⟩ (fun m H6 _ h => ?_) (fun m x H6 hx h => ?_) (fun H6 h => ?_)
            · obtain ⟨_, k2, _⟩ := h
              exact SqL.of (k2.lst e8' fun z => z)
            · obtain ⟨us, k2, ll⟩ := h
              rw [List.getElem?_map] at hx
              obtain ⟨a, ha, rfl⟩ := Option.map_eq_some_iff.mp hx
              have hm : m < rl.length := (List.getElem?_eq_some_iff.mp ha).1
              have hf := List.getElem?_eq_getElem (l := fl) (i := m) (by omega)
              obtain ⟨tt, o1, o2, o3⟩ := (rel m a _ ha hf).ex
              have kk := b.k.trans k2
              have hti : tt[i]? = some tt[i] := List.getElem?_eq_getElem (by omega)
              have lus : us.length ≤ 2 := by rw [ll.n, List.length_map, List.length_take]; omega
              refine ⟨rfl, .ref a, rfl, .int (0 + (i : Int)), rfl, a, _, (0 + (i : Int)), .ref tt[i], rfl, rfl, SqL.of (kk.lst o2 fun z => z), by rw [si]; exact atI_nat (j := i) (by rw [List.getElem?_map, hti]; rfl), us.map V.ref, ll.e, by rw [List.length_map]; omega, us ++ [tt[i]], k2.new hL1, ?_⟩
              have ne : tt[i] ≠ L1 := ne_of_none (o3 i _ hti) (b.k.free hL1)
              have := ll.put (kk.lst (o3 i _ hti) fun z => z) ne
              rw [List.take_add_one, hf, List.map_append]
              exact this
            · obtain ⟨us, k2, ll⟩ := h
              rw [List.length_map, few.1, List.take_length] at ll
              refine ⟨by show 0 ≤ sizeLine; omega, fun zz hzz => ?_⟩
              have kz : Kept None H6 (upd H6 zz (.lst [])) := Kept.refl.new hzz
              have ez : upd H6 zz (.lst []) zz = some (.lst []) := upd_same
              generalize upd H6 zz (.lst []) = H9 at kz ez ⊢
              have ll9 := ll.kept kz
              have lus : us.length ≤ 2 := by rw [ll.n, List.length_map]; omega
              refine ⟨L1, zz, us, fl.map fun f' => bs f' i, rfl, ll9.e, ez, ll9.n, by omega, fun j u l hu hl => ⟨(ll9.t j u l hu hl).1, ?_⟩, fun pS Ha ka ea => ?_⟩
              · rw [List.getElem?_map] at hl
                obtain ⟨f', _, rfl⟩ := Option.map_eq_some_iff.mp hl
                have := bs_len f' i
                omega
              · have le8 : ∀ x ∈ (fl.map fun f' => bs f' i).flatten, x ≤ 1 := fun x hx => by
                  obtain ⟨l, hl, hx⟩ := List.mem_flatten.mp hx
                  obtain ⟨f', _, rfl⟩ := List.mem_map.mp hl
                  exact bs_le hx
                have len8 : (fl.map fun f' => bs f' i).flatten.length ≤ 60 := by
                  have := bs_len (g y) i
                  have := bs_len (g z) i
                  rw [flat i, List.length_append]
                  split <;> split <;> (try simp only [List.length_nil]) <;> omega
                unfold tNil
                refine ss01_go ea len8 le8 (fun y H' h => h) fun p1 Hb kb hp1 eb => ?_
                rw [bits i hi] at eb
                have b5 := b.stay (((k2.trans kz).trans ka).trans kb)
                have n1 : p1 ≠ L := (ne_of_none (b.stay ((k2.trans kz).trans ka)).l hp1).symm
                exact ⟨ts.map V.ref, b5.l, by rw [List.length_map, b.n]; omega, _, b5.put hL eb n1⟩
          · obtain ⟨ts, b⟩ := h
            exact q L H' (k9.trans b.k) b.bl
    | two o y z =>
      obtain ⟨p, dg, bl⟩ := hD.get (nm y (by simp [Ex.names]))
      obtain ⟨r, dg2, bl2⟩ := hD.get (nm z (by simp [Ex.names]))
      have cy := fc y (nm y (by simp [Ex.names]))
      have cz := fc z (nm z (by simp [Ex.names]))
      have h1 : o.name ≠ "number" := by cases o <;> decide
      have h2 : o.name ≠ "copy" := by cases o <;> decide
      have h3 : o.name ≠ "up" := by cases o <;> decide
      have h4 : o.name ≠ "down" := by cases o <;> decide
      have h5 : o.name ≠ "pick" := by cases o <;> decide
      refine ⟨.str o.name, rfl, rfl, _, rfl, ite2 (fun h => absurd h (noS h1)) (fun _ => ?_)⟩
      refine ⟨.ref D, rfl, .ref E, rfl, E, _, 1, .str y, rfl, rfl, hE, atI_nat (j := 1) rfl, D, .ref p, rfl, dg, ?_⟩
      refine ⟨.str o.name, rfl, rfl, _, rfl, ite2 (fun h => absurd h (noS h2)) (fun _ => ?_)⟩
      refine ⟨.str o.name, rfl, rfl, _, rfl, ite2 (fun h => absurd h (noS h3)) (fun _ => ?_)⟩
      refine ⟨.str o.name, rfl, rfl, _, rfl, ite2 (fun h => absurd h (noS h4)) (fun _ => ?_)⟩
      refine ⟨.ref D, rfl, .ref E, rfl, E, _, 2, .str z, rfl, rfl, hE, atI_nat (j := 2) rfl, D, .ref r, rfl, dg2, ?_⟩
      refine ⟨.str o.name, rfl, rfl, _, rfl, ite2 (fun h => absurd h (noS h5)) (fun _ => ?_)⟩
      have grp : (∃ b : Bool, o = if b = true then .add else .less) ∨ (∃ b : Bool, o = if b = true then .same else .below) ∨ isBit o := by
        cases o with
        | add => exact .inl ⟨true, rfl⟩
        | less => exact .inl ⟨false, rfl⟩
        | same => exact .inr (.inl ⟨true, rfl⟩)
        | below => exact .inr (.inl ⟨false, rfl⟩)
        | and => exact .inr (.inr (.inl rfl))
        | or => exact .inr (.inr (.inr (.inl rfl)))
        | unlike => exact .inr (.inr (.inr (.inr rfl)))
      rcases grp with ⟨b, rfl⟩ | ⟨b, rfl⟩ | hb
      · have hin : inV (.str (if b = true then Op.add else Op.less).name) [.str "add", .str "less"] = true := by cases b <;> rfl
        refine ⟨.str _, rfl, (show 2 ≤ sizeLine by decide), fun t ht => ⟨t, _, rfl, .inr (SqT.of upd_same), rfl, rfl, _, rfl, ite2 (fun _ => ?_) (fun y => absurd hin y)⟩⟩
        have k1 : Kept None H (upd H t (.tup [.str "add", .str "less"])) := Kept.refl.new ht
        generalize upd H t (.tup [.str "add", .str "less"]) = H1 at k1 ⊢
        refine ⟨.ref p, rfl, .ref r, rfl, 1, rfl, (show 2 ≤ sizeLine by decide), fun m hm => ⟨.str _, rfl, rfl, .inr ⟨_, rfl, m, _, _, .int (sg b), rfl, rfl, SqL.of upd_same, ?_, p, r, b, v, g y, g z, rfl, by omega, cy, cz, ?_, ?_, fun p' H' k' bl' => ?_⟩⟩⟩
        · cases b <;> rfl
        · exact bl.kept (k1.trans (Kept.refl.new hm)) fun _ z => z
        · exact bl2.kept (k1.trans (Kept.refl.new hm)) fun _ z => z
        · refine q p' H' ((k1.trans (Kept.refl.new hm)).trans k') ?_
          cases b <;> exact bl'
      · have hout : inV (.str (if b = true then Op.same else Op.below).name) [.str "add", .str "less"] = false := by cases b <;> rfl
        have hin : inV (.str (if b = true then Op.same else Op.below).name) [.str "same", .str "below"] = true := by cases b <;> rfl
        refine ⟨.str _, rfl, (show 2 ≤ sizeLine by decide), fun t ht => ⟨t, _, rfl, .inr (SqT.of upd_same), rfl, rfl, _, rfl, ite2 (fun y => absurd (hout.symm.trans y) (by decide)) (fun _ => ?_)⟩⟩
        have k1 : Kept None H (upd H t (.tup [.str "add", .str "less"])) := Kept.refl.new ht
        generalize upd H t (.tup [.str "add", .str "less"]) = H1 at k1 ⊢
        refine ⟨.str _, rfl, (show 2 ≤ sizeLine by decide), fun t ht => ⟨t, _, rfl, .inr (SqT.of upd_same), rfl, rfl, _, rfl, ite2 (fun _ => ?_) (fun y => absurd hin y)⟩⟩
        have k2 : Kept None H (upd H1 t (.tup [.str "same", .str "below"])) := k1.trans (Kept.refl.new ht)
        generalize upd H1 t (.tup [.str "same", .str "below"]) = H2 at k2 ⊢
        refine ⟨(show 2 ≤ sizeLine by decide), fun m hm => ⟨.str _, rfl, rfl, .inr ⟨_, rfl, m, _, _, .int ((b01 b : Nat) : Int), rfl, rfl, SqL.of upd_same, (by cases b <;> rfl), ?_⟩⟩⟩
        have k3 : Kept None H (upd H2 m (.lst [.int 0, .int 1])) := k2.trans (Kept.refl.new hm)
        generalize upd H2 m (.lst [.int 0, .int 1]) = H3 at k3 ⊢
        refine ⟨.ref p, rfl, .ref r, rfl, p, r, v, g y, g z, rfl, by omega, bl.kept k3 fun _ z => z, bl2.kept k3 fun _ z => z, fun O H4 k4 eO => ⟨O, rfl, ⟨_, SqL.of eO⟩, fun L hL => ?_⟩⟩
        have k5 := k3.trans k4
        refine lc_list (K := K) (a := O) (xs := nums (ords (g y) (g z) v)) (fun i H' => Kept None H4 H' ∧ H' L = some (.lst (nums (((ords (g y) (g z) v).take i).map fun o => if o = b01 b then 1 else 0)))) ⟨Kept.refl.new hL, upd_same⟩ (fun i H' _ h => SqL.of (h.1.lst eO fun z => z)) (fun i x H' hx h => ?_) (fun H' h => ?_)
        · obtain ⟨k6, e6⟩ := h
          obtain ⟨n, hn, rfl⟩ := nums_at hx
          have ol := ords_len (g y) (g z) v
          refine ⟨rfl, .int (n : Int), rfl, .int ((b01 b : Nat) : Int), rfl, n, b01 b, rfl, rfl, .inr ⟨_, rfl, _, e6, by rw [nums_len, List.length_map, List.length_take]; omega, k6.new hL, ?_⟩⟩
          rw [upd_same, a1_snoc (fun o => if o = b01 b then 1 else 0) _ hn, nums_snoc]
          by_cases h : n = b01 b
          · rw [decide_eq_true h, if_pos h]; rfl
          · rw [decide_eq_false h, if_neg h]; rfl
        · obtain ⟨k6, e6⟩ := h
          rw [nums_len, List.take_length] at e6
          have ol := ords_len (g y) (g z) v
          have k7 := k5.trans k6
          unfold tNil
          refine ss01_go e6 (by rw [List.length_map]; omega) (fun n hn => ?_) (fun y H' h => h) fun p1 H7 k8 hp1 e8 => ?_
          · obtain ⟨o, _, rfl⟩ := List.mem_map.mp hn
            split <;> decide
          have ask : ∀ k, k < v → bs (exF (most v) g (.two (if b = true then .same else .below) y z)) k = if k = 0 then set01 ((ords (g y) (g z) v).map fun o => if o = b01 b then 1 else 0) else [0] := fun k hk => by
            cases b with
            | true => exact same_bits v1 cy cz hk
            | false => exact below_bits v1 cy cz hk
          refine ⟨(show 1 ≤ sizeLine by decide), fun q1 hq1 => ?_⟩
          have k9 : Kept None H7 (upd H7 q1 (.lst [.ref p1])) := Kept.refl.new hq1
          have eq1 : upd H7 q1 (.lst [.ref p1]) q1 = some (.lst [.ref p1]) := upd_same
          generalize upd H7 q1 (.lst [.ref p1]) = H8 at k9 eq1 ⊢
          refine ⟨by show 1 ≤ sizeLine; omega, fun t ht => ⟨by show 1 ≤ sizeLine; omega, fun t2 ht2 => ?_⟩⟩
          have ka : Kept None H8 (upd (upd H8 t (.lst [.int 0])) t2 (.lst [.ref t])) := (Kept.refl.new ht).trans (Kept.refl.new ht2)
          have et : upd (upd H8 t (.lst [.int 0])) t2 (.lst [.ref t]) t = some (.lst (nums [0])) := by
            rw [upd_ne (fun e => by rw [← e, upd_same] at ht2; cases ht2), upd_same]; rfl
          have et2 : upd (upd H8 t (.lst [.int 0])) t2 (.lst [.ref t]) t2 = some (.lst [.ref t]) := upd_same
          generalize upd (upd H8 t (.lst [.int 0])) t2 (.lst [.ref t]) = H9 at ka et et2 ⊢
          have tn : ((v : Int) - 1).toNat = v - 1 := by omega
          refine ⟨.int (v : Int), rfl, (v : Int), 1, rfl, rfl, t2, (v : Int) - 1, [.ref t], rfl, rfl, et2, by omega, by omega, by rw [tn]; show 1 * (v - 1) ≤ sizeLine; omega, fun pr hpr => ?_⟩
          rw [tn, rep_one]
          have kb : Kept None H9 (upd H9 pr (.lst ((List.replicate (v - 1) t).map V.ref))) := Kept.refl.new hpr
          have er : upd H9 pr (.lst ((List.replicate (v - 1) t).map V.ref)) pr = some (.lst ((List.replicate (v - 1) t).map V.ref)) := upd_same
          generalize upd H9 pr (.lst ((List.replicate (v - 1) t).map V.ref)) = Ha at kb er ⊢
          refine ⟨q1, pr, _, _, rfl, rfl, (ka.trans kb).lst eq1 fun z => z, er, by rw [List.length_map, List.length_replicate]; show 1 + (v - 1) ≤ sizeLine; omega, fun pp hpp => ?_⟩
          have kc : Kept None Ha (upd Ha pp (.lst ([.ref p1] ++ (List.replicate (v - 1) t).map V.ref))) := Kept.refl.new hpp
          refine q pp _ ((((k7.trans k8).trans k9).trans (ka.trans kb)).trans kc) ⟨p1 :: List.replicate (v - 1) t, by rw [List.length_cons, List.length_replicate]; omega, by rw [upd_same]; rfl, fun j u hu => ?_⟩
          have hj : j < v := by
            have := (List.getElem?_eq_some_iff.mp hu).1
            rw [List.length_cons, List.length_replicate] at this
            omega
          rw [ask j hj]
          cases j with
          | zero =>
            cases hu
            rw [if_pos rfl]
            exact ((k9.trans (ka.trans kb)).trans kc).lst e8 fun z => z
          | succ j =>
            rw [List.getElem?_cons_succ, List.getElem?_replicate, if_pos (by omega)] at hu
            cases hu
            rw [if_neg (by omega)]
            exact (kb.trans kc).lst et fun z => z
      · have hout : inV (.str o.name) [.str "add", .str "less"] = false := by rcases hb with rfl | rfl | rfl <;> rfl
        have hout2 : inV (.str o.name) [.str "same", .str "below"] = false := by rcases hb with rfl | rfl | rfl <;> rfl
        refine ⟨.str _, rfl, (show 2 ≤ sizeLine by decide), fun t ht => ⟨t, _, rfl, .inr (SqT.of upd_same), rfl, rfl, _, rfl, ite2 (fun y => absurd (hout.symm.trans y) (by decide)) (fun _ => ?_)⟩⟩
        have k1 : Kept None H (upd H t (.tup [.str "add", .str "less"])) := Kept.refl.new ht
        generalize upd H t (.tup [.str "add", .str "less"]) = H1 at k1 ⊢
        refine ⟨.str _, rfl, (show 2 ≤ sizeLine by decide), fun t ht => ⟨t, _, rfl, .inr (SqT.of upd_same), rfl, rfl, _, rfl, ite2 (fun y => absurd (hout2.symm.trans y) (by decide)) (fun _ => ?_)⟩⟩
        have k2 : Kept None H (upd H1 t (.tup [.str "same", .str "below"])) := k1.trans (Kept.refl.new ht)
        generalize upd H1 t (.tup [.str "same", .str "below"]) = H2 at k2 ⊢
        refine ⟨by show 0 ≤ sizeLine; omega, fun F1 hF => ?_⟩
        have hF0 : H F1 = none := k2.free hF
        have b0 : Bu H (upd H2 F1 (.lst [])) F1 (o.f (most v) (g y) (g z)) 0 [] := ⟨k2.new hF0, upd_same, rfl, fun j t e => by cases e⟩
        generalize upd H2 F1 (.lst []) = H3 at b0 ⊢
        obtain ⟨ls, l1, l2, l3⟩ := bl.ex
        obtain ⟨rs, r1, r2, r3⟩ := bl2.ex
        refine ⟨.ref p, rfl, .ref r, rfl, p, r, _, _, rfl, SqL.of (b0.k.lst l2 fun z => z), SqL.of (b0.k.lst r2 fun z => z), ?_⟩
        refine RZ.for_zipL (K := K) (xs := ls.map V.ref) (ys := rs.map V.ref) (by rw [List.length_map, List.length_map, l1, r1]) (fun i σ H' => ∃ (ts : List Addr) (x9 x10 : Option V), σ = [some (.int (v : Int)), some (.ref E), some (.ref D), some (.str o.name), some (.ref p), some (.ref r), none, none, some (.ref F1), x9, x10, none, none, none, none, none, none] ∧ Bu H H' F1 (o.f (most v) (g y) (g z)) i ts)
          ⟨[], none, none, rfl, b0⟩ (fun i σ H' h => ?_) (fun i x y' T σ H' hx hy h hT => ?_) (fun σ H' h => ?_)
        · obtain ⟨_, _, _, _, b⟩ := h
          exact ⟨SqL.of (b.k.lst l2 fun z => z), SqL.of (b.k.lst r2 fun z => z)⟩
        · obtain ⟨ts, x9, x10, rfl, b⟩ := h
          rw [List.getElem?_map] at hx hy
          obtain ⟨A1, ha, rfl⟩ := Option.map_eq_some_iff.mp hx
          obtain ⟨A2, hb2, rfl⟩ := Option.map_eq_some_iff.mp hy
          have hi : i < v := by rw [← l1]; exact (List.getElem?_eq_some_iff.mp ha).1
          have kT : Kept None H' (upd H' T (.tup [.ref A1, .ref A2])) := Kept.refl.new hT
          refine ⟨T, _, rfl, SqT.of upd_same, rfl, .ref A1, [.ref A2], rfl, .ref A2, [], rfl, rfl, ?_⟩
          have b1 := b.stay kT
          generalize upd H' T (.tup [.ref A1, .ref A2]) = H4 at b1 ⊢
          clear b kT
          have e1 := b1.k.lst (l3 i A1 ha) fun z => z
          have e2 := b1.k.lst (r3 i A2 hb2) fun z => z
          have lb := bs_len (g y) i
          have rb := bs_len (g z) i
          refine ⟨.ref F1, rfl, .inl ⟨rfl, _, SqL.of b1.l⟩, .ref A2, rfl, A2, rfl, ⟨_, SqL.of e2⟩, fun L1 hL1 => ?_⟩
          refine lc_list (K := K) (a := A2) (xs := nums (bs (g z) i)) (fun q H' => ∃ us : List Addr, Kept None H4 H' ∧ H' L1 = some (.lst (us.map V.ref)) ∧ us.length = q ∧ ∀ (j : Nat) (u : Addr) (n : Nat), us[j]? = some u → (bs (g z) i)[j]? = some n → H' u = some (.lst (nums ((bs (g y) i).map fun a => byB o a n))) ∧ u ≠ L1)
            ⟨[], Kept.refl.new hL1, upd_same, rfl, fun j u n e => by cases e⟩ (fun q H' _ h => ?_) (fun q x H' hx h => ?_) (fun H' h => ?_)
          · obtain ⟨_, k5, _⟩ := h
            exact SqL.of (k5.lst e2 fun z => z)
          · obtain ⟨us, k5, eL1, lu, rows⟩ := h
            obtain ⟨n, hn, rfl⟩ := nums_at hx
            have hq : q < (bs (g z) i).length := (List.getElem?_eq_some_iff.mp hn).1
            have n1 := bs_le (List.mem_of_getElem? hn)
            have e15 := k5.lst e1 fun z => z
            refine ⟨rfl, .ref A1, rfl, A1, rfl, ⟨_, SqL.of e15⟩, fun L2 hL2 => ?_⟩
            refine lc_list (K := K) (a := A1) (xs := nums (bs (g y) i)) (fun m H6 => Kept None H' H6 ∧ H6 L2 = some (.lst (nums (((bs (g y) i).take m).map fun a => byB o a n)))) ⟨Kept.refl.new hL2, upd_same⟩ (fun m H6 _ h => SqL.of (h.1.lst e15 fun z => z)) (fun m x H6 hx h => ?_) (fun H6 h => ?_)
            · obtain ⟨k6, e6⟩ := h
              obtain ⟨a, ha', rfl⟩ := nums_at hx
              have hm : m < (bs (g y) i).length := (List.getElem?_eq_some_iff.mp ha').1
              have a1 := bs_le (List.mem_of_getElem? ha')
              refine ⟨rfl, .str o.name, rfl, .int (a : Int), rfl, .int (n : Int), rfl, o, a, n, rfl, hb, a1, n1, fun H7 k7 => ⟨_, k7.lst e6 fun z => z, by rw [nums_len, List.length_map, List.length_take]; omega, (k6.trans k7).new hL2, ?_⟩⟩
              rw [upd_same, a1_snoc (fun a => byB o a n) _ ha', nums_snoc]
            · obtain ⟨k6, e6⟩ := h
              rw [nums_len, List.take_length] at e6
              have eL1' := k6.lst eL1 fun z => z
              have n21 : L2 ≠ L1 := (ne_of_none eL1 hL2).symm
              refine ⟨us.map V.ref, eL1', by rw [List.length_map]; omega, us ++ [L2], (k5.trans k6).new hL1, by rw [upd_same, List.map_append]; rfl, by rw [List.length_append, lu]; rfl, fun j u n' hu hn' => ?_⟩
              by_cases hj : j < us.length
              · rw [List.getElem?_append_left hj] at hu
                obtain ⟨f1, f2⟩ := rows j u n' hu hn'
                exact ⟨by rw [upd_ne f2]; exact k6.lst f1 fun z => z, f2⟩
              · have hj2 : j = us.length := by
                  have := (List.getElem?_eq_some_iff.mp hu).1
                  rw [List.length_append] at this
                  simp only [List.length_cons, List.length_nil] at this
                  omega
                subst hj2
                rw [List.getElem?_append_right (Nat.le_refl _), Nat.sub_self] at hu
                have eb : L2 = u := Option.some.inj hu
                subst eb
                rw [lu, hn] at hn'
                have en : n = n' := Option.some.inj hn'
                subst en
                exact ⟨by rw [upd_ne n21]; exact e6, n21⟩
          · obtain ⟨us, k5, eL1, lu, rows⟩ := h
            rw [nums_len] at lu
            refine ⟨by show 0 ≤ sizeLine; omega, fun zz hzz => ?_⟩
            have kz : Kept None H' (upd H' zz (.lst [])) := Kept.refl.new hzz
            have ez : upd H' zz (.lst []) zz = some (.lst []) := upd_same
            generalize upd H' zz (.lst []) = H5 at kz ez ⊢
            refine ⟨L1, zz, us, (bs (g z) i).map fun n => (bs (g y) i).map fun a => byB o a n, rfl, kz.lst eL1 fun z => z, ez, by rw [List.length_map, lu], by omega, fun j u l hu hl => ?_, fun pS H7 k7 e7 => ?_⟩
            · rw [List.getElem?_map] at hl
              obtain ⟨n, hn, rfl⟩ := Option.map_eq_some_iff.mp hl
              exact ⟨kz.lst (rows j u n hu hn).1 fun z => z, by rw [List.length_map]; omega⟩
            · have e8 : H7 pS = some (.lst (nums ((bs (g z) i).flatMap fun n => (bs (g y) i).map fun a => byB o a n))) := e7
              have le8 : ∀ x ∈ (bs (g z) i).flatMap fun n => (bs (g y) i).map fun a => byB o a n, x ≤ 1 := fun x hx => by
                obtain ⟨n, hn, hx⟩ := List.mem_flatMap.mp hx
                obtain ⟨a, ha, rfl⟩ := List.mem_map.mp hx
                have h1 := bs_le hn
                have h2 := bs_le ha
                exact byB_le hb h2 h1
              have len8 : ((bs (g z) i).flatMap fun n => (bs (g y) i).map fun a => byB o a n).length ≤ 60 := by
                refine Nat.le_trans (flat_len _ _ 2 fun n => by rw [List.length_map]; exact lb) ?_
                omega
              unfold tNil
              refine ss01_go e8 len8 le8 (fun y H' h => h) fun p1 H9 k9 hp1 e9 => ?_
              rw [op_bits cy cz hb hi] at e9
              have b5 := ((b1.stay k5).stay kz).stay (k7.trans k9)
              have n1 : p1 ≠ F1 := (ne_of_none (((b1.stay k5).stay kz).stay k7).l hp1).symm
              exact ⟨F1, _, .ref p1, rfl, rfl, b5.l, by rw [List.length_map, b5.n]; omega, ts ++ [p1], _, _, rfl, b5.put hF0 e9 n1⟩
        · obtain ⟨ts, x9, x10, rfl, b⟩ := h
          rw [List.length_map, l1] at b
          exact ⟨.ref F1, rfl, q F1 H' b.k b.bl⟩
end
end K12

set_option Elab.async false
set_option linter.all false
set_option maxRecDepth 100000
set_option maxHeartbeats 4000000
namespace K12
open PySem PySem.Spec PyProof.Rows L2
/-! ### expressions drawn -/
def words12 : List V := [.str "add", .str "less", .str "and", .str "or", .str "unlike", .str "same", .str "below", .str "pick", .str "up", .str "down", .str "copy", .str "number"]
def manyD : List (Key × V) := [(Sum.inr "copy", .int 1), (Sum.inr "pick", .int 3)]
def Tail (z : PySem.Str) : Prop := ∀ (x0 x1 x2 : PySem.Str) (v : Nat), ∃ (m : Int) (e : Ex) (zs : List V), (valV (mergeK [] manyD) (Sum.inr z : Key)).getD (.int 2) = .int m ∧ cutV [V.str x0, .str x1, .str x2] none (some m) = zs ∧ e.vs = .str z :: zs ∧ zs ≠ [] ∧ zs.length ≤ 3 ∧ Ex.ok v e ∧ (∀ x ∈ e.names, x = x0 ∨ x = x1 ∨ x = x2)
theorem tail_op (o : Op) : Tail o.name := fun x0 x1 x2 v => ⟨2, .two o x0 x1, [.str x0, .str x1], by cases o <;> rfl, rfl, rfl, (fun z => nomatch z), (show 2 ≤ 3 by decide), trivial, fun x hx => by
  simp only [Ex.names, List.mem_cons, List.not_mem_nil, or_false] at hx
  rcases hx with h | h
  · exact .inl h
  · exact .inr (.inl h)⟩
theorem tail_copy : Tail "copy" := fun x0 x1 x2 v => ⟨1, .copy x0, [.str x0], rfl, rfl, rfl, (fun z => nomatch z), (show 1 ≤ 3 by decide), trivial, fun x hx => by
  simp only [Ex.names, List.mem_cons, List.not_mem_nil, or_false] at hx
  exact .inl hx⟩
theorem tail_pick : Tail "pick" := fun x0 x1 x2 v => ⟨3, .pick x0 x1 x2, [.str x0, .str x1, .str x2], rfl, rfl, rfl, (fun z => nomatch z), (show 3 ≤ 3 by decide), trivial, fun x hx => by
  simp only [Ex.names, List.mem_cons, List.not_mem_nil, or_false] at hx
  exact hx⟩
theorem word_of {r : Nat} (h : r < 14) : ∃ z : PySem.Str, (words12 ++ [.str "add", .str "less"])[r]? = some (.str z) ∧ (z = "number" ∨ (z = "up" ∨ z = "down") ∨ (z ≠ "number" ∧ inV (.str z) [.str "up", .str "down"] = false ∧ Tail z)) := by
  rcases (show r = 0 ∨ r = 1 ∨ r = 2 ∨ r = 3 ∨ r = 4 ∨ r = 5 ∨ r = 6 ∨ r = 7 ∨ r = 8 ∨ r = 9 ∨ r = 10 ∨ r = 11 ∨ r = 12 ∨ r = 13 by omega) with rfl | rfl | rfl | rfl | rfl | rfl | rfl | rfl | rfl | rfl | rfl | rfl | rfl | rfl
  · exact ⟨_, rfl, .inr (.inr ⟨by decide, rfl, tail_op .add⟩)⟩
  · exact ⟨_, rfl, .inr (.inr ⟨by decide, rfl, tail_op .less⟩)⟩
  · exact ⟨_, rfl, .inr (.inr ⟨by decide, rfl, tail_op .and⟩)⟩
  · exact ⟨_, rfl, .inr (.inr ⟨by decide, rfl, tail_op .or⟩)⟩
  · exact ⟨_, rfl, .inr (.inr ⟨by decide, rfl, tail_op .unlike⟩)⟩
  · exact ⟨_, rfl, .inr (.inr ⟨by decide, rfl, tail_op .same⟩)⟩
  · exact ⟨_, rfl, .inr (.inr ⟨by decide, rfl, tail_op .below⟩)⟩
  · exact ⟨_, rfl, .inr (.inr ⟨by decide, rfl, tail_pick⟩)⟩
  · exact ⟨_, rfl, .inr (.inl (.inl rfl))⟩
  · exact ⟨_, rfl, .inr (.inl (.inr rfl))⟩
  · exact ⟨_, rfl, .inr (.inr ⟨by decide, rfl, tail_copy⟩)⟩
  · exact ⟨_, rfl, .inl rfl⟩
  · exact ⟨_, rfl, .inr (.inr ⟨by decide, rfl, tail_op .add⟩)⟩
  · exact ⟨_, rfl, .inr (.inr ⟨by decide, rfl, tail_op .less⟩)⟩
abbrev sLExpr : Stmt := top 39
theorem scLExpr : FnScope ["draw", "wide", "words", "word", "some", "k"] ["draw", "wide"] (defScope sLExpr) := ⟨rfl, rfl, rfl, by decide +kernel, rfl, by decide +kernel, by decide +kernel⟩
def xyz : List PySem.Str := ["x", "y", "z"]
theorem xyz_at : ∀ j, j < 3 → ∃ c : Nat, ("xyz" : PySem.Str).cps.toList[j]? = some c ∧ (⟨#[c]⟩ : PySem.Str) ∈ xyz := by
  intro j hj
  rcases (show j = 0 ∨ j = 1 ∨ j = 2 by omega) with rfl | rfl | rfl
  · exact ⟨120, by decide +kernel, by decide +kernel⟩
  · exact ⟨121, by decide +kernel, by decide +kernel⟩
  · exact ⟨122, by decide +kernel, by decide +kernel⟩
def spLExpr : Sp := fun vs H Q _ => ∃ (d c : Addr) (ns : List Int) (n v : Nat), vs = [.ref d, .int (v : Int)] ∧ Dr H d c ns n ∧ n ≤ 100000 ∧ 1 ≤ v ∧ v ≤ 12 ∧
  ∀ (e : Ex) (p : Addr) H', Ex.ok v e → (∀ x ∈ e.names, x ∈ xyz) → H p = none → Kept (At d) H H' → Dr H' d c ns (n + 8) → H' p = some (.tup e.vs) → Q (.ref p) H'
section
variable {P : Program} {w : World} {K : PySem.W.Frag} {mg : PySem.Str → Option Value} {base : Heap} {f fN : Addr} {fd fdN : FuncData}
theorem ok_lexpr (F : FnP K "_law_expr" sLExpr f fd) (GLNext : FnOk P w K mg base CX0 2 fN fdN ["draw", "many"] spNext) (bLNext : Binds K fdN ["draw", "many"] []) (kLNext : PySem.W.keepIn K (.ref fN) = true) (gLNext : mg "_law_next" = some (.ref fN))
    (m_range : mg "range" = none) (m_tuple : mg "tuple" = none) : FnOk P w K mg base CX0 3 f fd ["draw", "wide"] spLExpr := by
  refine F.ok (k := 2) scLExpr (fun vs H Q E h => ?_) (fun cdv A outer s H vs Q E hr h => ?_)
  · obtain ⟨d, c, ns, n, v, rfl, _⟩ := h
    rfl
  · obtain ⟨d, c, ns, n, v, rfl, D, hn, w1, w2, q⟩ := h
    have hu := hu_of hr
    refine ⟨_, PSs.nox (pss_cons (ps_set (i := 2) scLExpr.nd rfl (Or.inl rfl) (pe_lst (pa_cons pe_str (pa_cons pe_str (pa_cons pe_str (pa_cons pe_str (pa_cons pe_str (pa_cons pe_str (pa_cons pe_str (pa_cons pe_str (pa_cons pe_str (pa_cons pe_str (pa_cons pe_str (pa_cons pe_str pa_nil))))))))))))))
    (pss_cons (ps_set (i := 3) scLExpr.nd rfl (Or.inl rfl) (pe_ix ix_list (pe_op op_cat (pv 2) (pe_slice sl_list (pv 2) po_none (po_some pe_int))) (pe_call GLNext hr (by rfl) gLNext kLNext bLNext .nil pass0 (pa_cons (pv 0) (pa_cons pe_int pa_nil))) (fun _ _ => rfl)))
    (pss_cons (ps_setLc (i := 4) (own := [("k", 5)]) (g := gName 5) (tt := tYes) (te := tOp rIxS (tC (.str "xyz")) (tCall spNext [] E0 (tCons (tVar 0) (tCons (tC (.int 3)) tNil)))) rfl scLExpr.nd rfl rfl (sw_true rfl rfl rfl (by decide +kernel)) (pi_range1 rfl m_range (pa_cons pe_int pa_nil)) (blkOk_by (own := [("k", 5)]) (N := ["draw", "wide", "words", "word", "some", "k"]) (sc := defScope sLExpr) (by decide +kernel)) (by exact (fun _ _ _ _ _ => (pg_name (i := 5) scLExpr.nd rfl (Or.inl rfl)))) (by exact (fun _ _ _ _ _ => pts_nil)) (by exact (fun _ _ _ _ _ => (pe_ix (r := rIxS) ix_str pe_str (pe_call GLNext hr (by rfl) gLNext kLNext bLNext .nil pass0 (pa_cons (pv 0) (pa_cons pe_int pa_nil))) (fun _ _ => rfl)))))
    (pss_cons (ps_if (pt_cmpR op_eq (pv 3) pe_str (nomark _))
      (pss_one (ps_ret (pe_tup (pa_cons (pv 3) (pa_cons (pe_call GLNext hr (by rfl) gLNext kLNext bLNext .nil pass0 (pa_cons (pv 0) (pa_cons (pe_op n_bit pe_int (pv 1)) pa_nil))) pa_nil)))))
      pss_nil)
    (pss_cons (ps_if (pt_cmpR op_in_seq (pv 3) (pe_tup (pa_cons pe_str (pa_cons pe_str pa_nil))) (by rfl))
      (pss_one (ps_ret (pe_tup (pa_cons (pv 3) (pa_cons (pe_ix ix_list (pv 4) pe_int (fun _ _ => rfl)) (pa_cons (pe_call GLNext hr (by rfl) gLNext kLNext bLNext .nil pass0 (pa_cons (pv 0) (pa_cons pe_int pa_nil))) pa_nil))))))
      pss_nil)
    (pss_one (ps_ret (pe_op op_catT (pe_tup (pa_cons (pv 3) pa_nil)) (pe_tupleOf (by rfl) m_tuple (pe_slice sl_list (pv 4) po_none (po_some (pe_dget2 hu (pe_disp (pps_cons pe_str pe_int (pps_cons pe_str pe_int pps_nil)) (by rfl) (by rfl) (fun z => by cases z) (by decide)) (pv 3) pe_int ⟨rfl, rfl, rfl, rfl⟩)))))))))))), ?_⟩
    have szl := sizeLine_eq
    refine ⟨(show 12 ≤ sizeLine by decide), fun W hW => ?_⟩
    have k1 : Kept (At d) H (upd H W (.lst words12)) := Kept.refl.new hW
    have D1 : Dr (upd H W (.lst words12)) d c ns n := D.new hW
    have eW : upd H W (.lst words12) W = some (.lst words12) := upd_same
    refine ⟨.ref W, rfl, .ref W, rfl, 2, rfl, W, words12, rfl, SqL.of eW, fun l hl => ?_⟩
    refine ⟨W, l, words12, [.str "add", .str "less"], rfl, rfl, by rw [upd_ne (ne_of_none eW hl)]; exact eW, upd_same, (show 14 ≤ sizeLine by decide), fun p hp => ?_⟩
    have k2 : Kept (At d) H (upd (upd (upd H W (.lst words12)) l (.lst [.str "add", .str "less"])) p (.lst (words12 ++ [.str "add", .str "less"]))) := (k1.nu D1 hl).nu (D1.new hl) hp
    have D2 : Dr (upd (upd (upd H W (.lst words12)) l (.lst [.str "add", .str "less"])) p (.lst (words12 ++ [.str "add", .str "less"]))) d c ns n := (D1.new hl).new hp
    have eP : upd (upd (upd H W (.lst words12)) l (.lst [.str "add", .str "less"])) p (.lst (words12 ++ [.str "add", .str "less"])) p = some (.lst (words12 ++ [.str "add", .str "less"])) := upd_same
    have hpd := (D1.new hl (o := .lst [.str "add", .str "less"])).apart hp
    refine ⟨.ref d, rfl, d, c, ns, n, 14, rfl, D2, by omega, by omega, by omega, fun r H3 a0 a1 k3 D3 => ?_⟩
    obtain ⟨r, rfl⟩ := Int.eq_ofNat_of_zero_le a0
    obtain ⟨z, hz, hw⟩ := word_of (r := r) (by omega)
    refine ⟨p, _, r, .str z, rfl, rfl, SqL.of (k3.lst eP hpd), atI_nat hz, ?_⟩
    have k4 := k2.trans k3
    refine ⟨3, rfl, by decide, by decide, fun L hL => ?_⟩
    have hLH : H L = none := At.free k4 D3 hL
    have hLd := D3.apart hL
    have hLc := D3.apartC hL
    refine lc_range (lo := 0) (n := 3) (fun i H' => Kept (At2 d L) H3 H' ∧ Dr H' d c ns (n + 1 + i) ∧ ∃ es : List PySem.Str, es.length = i ∧ H' L = some (.lst (es.map V.str)) ∧ ∀ x ∈ es, x ∈ xyz)
      ⟨Kept.refl.upd (.inr rfl), D3.keep hLd hLc, [], rfl, upd_same, by simp⟩ (fun i H' hi h => ?_) (fun H' h => ?_)
    · obtain ⟨ki, Di, es, e1, e2, e3⟩ := h
      refine ⟨rfl, .ref d, rfl, d, c, ns, _, 3, rfl, Di, by omega, by omega, by omega, fun r5 H5 b0 b1 k5 D5 => ?_⟩
      obtain ⟨j, rfl⟩ := Int.eq_ofNat_of_zero_le b0
      obtain ⟨cc, hc1, hc2⟩ := xyz_at j (by omega)
      refine ⟨"xyz", _, cc, rfl, rfl, by rw [show ("xyz" : PySem.Str).length = 3 from by decide +kernel]; omega, atI_nat (j := j) hc1, es.map V.str, k5.lst e2 hLd, by rw [List.length_map]; omega, (ki.trans (k5.weak fun b hb => .inl hb)).upd (.inr rfl), D5.keep hLd hLc, es ++ [⟨#[cc]⟩], by rw [List.length_append, e1]; rfl, by rw [upd_same, List.map_append]; rfl, fun x hx => ?_⟩
      rcases List.mem_append.mp hx with h | h
      · exact e3 x h
      · rw [List.mem_singleton.mp h]; exact hc2
    · obtain ⟨ki, Di, es, e1, e2, e3⟩ := h
      have kH : Kept (At d) H H' := k4.drop hLH ki
      obtain ⟨x0, x1, x2, rfl⟩ : ∃ x0 x1 x2, es = [x0, x1, x2] := by
        match es, e1 with
        | [x0, x1, x2], _ => exact ⟨_, _, _, rfl⟩
      have m0 := e3 x0 (by simp)
      have m1 := e3 x1 (by simp)
      have m2 := e3 x2 (by simp)
      have tl : 2 ^ v ≤ 4096 := Nat.pow_le_pow_right (n := 2) (i := v) (j := 12) (by decide) w2
      have tp := Nat.two_pow_pos v
      clear ki k4 D3 hL
      rcases hw with rfl | hw | ⟨hn1, hin, ht⟩
      · refine ⟨.str "number", rfl, rfl, _, rfl, ite2 (fun _ => ?_) (fun y => absurd (decide_eq_true rfl) y)⟩
        refine ⟨.str "number", rfl, .ref d, rfl, .int v, rfl, v, rfl, rfl, by omega, d, c, ns, _, ((2 ^ v : Nat) : Int), rfl, Di, by omega, by generalize 2 ^ v = u at tl tp ⊢; omega, by generalize 2 ^ v = u at tl tp ⊢; omega, fun r5 H5 b0 b1 k5 D5 => ⟨(show 2 ≤ sizeLine by decide), fun p hp => ?_⟩⟩
        obtain ⟨r5, rfl⟩ := Int.eq_ofNat_of_zero_le b0
        exact q (.num r5) p _ (show r5 < 2 ^ v by exact Int.ofNat_lt.mp b1) (fun x hx => by cases hx) (At.free (kH.trans k5) D5 hp) ((kH.trans k5).nu D5 hp) ((D5.new hp).more (by omega)) upd_same
      · have hud : z ≠ "number" ∧ inV (.str z) [.str "up", .str "down"] = true ∧ ∀ kk : Nat, kk ≤ 11 → ∃ ex : Ex, ex.vs = [.str z, .str x0, .int (kk : Int)] ∧ Ex.ok v ex ∧ ∀ x ∈ ex.names, x ∈ xyz := by
          rcases hw with rfl | rfl
          · exact ⟨by decide, rfl, fun kk hk => ⟨.up x0 kk, rfl, hk, fun x hx => by
              simp only [Ex.names, List.mem_cons, List.not_mem_nil, or_false] at hx
              rw [hx]; exact m0⟩⟩
          · exact ⟨by decide, rfl, fun kk hk => ⟨.down x0 kk, rfl, hk, fun x hx => by
              simp only [Ex.names, List.mem_cons, List.not_mem_nil, or_false] at hx
              rw [hx]; exact m0⟩⟩
        obtain ⟨hn1, hin, hex⟩ := hud
        refine ⟨.str z, rfl, rfl, _, rfl, ite2 (fun y => absurd y (noS hn1)) (fun _ => ?_)⟩
        refine ⟨.str z, rfl, (show 2 ≤ sizeLine by decide), fun t ht => ⟨t, _, rfl, .inr (SqT.of upd_same), rfl, rfl, _, rfl, ite2 (fun _ => ?_) (fun y => absurd hin y)⟩⟩
        have kT : Kept (At d) H (upd H' t (.tup [.str "up", .str "down"])) := kH.nu Di ht
        have DT : Dr (upd H' t (.tup [.str "up", .str "down"])) d c ns (n + 1 + 3) := Di.new ht
        have eL : upd H' t (.tup [.str "up", .str "down"]) L = some (.lst [.str x0, .str x1, .str x2]) := by rw [upd_ne (ne_of_none e2 ht)]; exact e2
        generalize upd H' t (.tup [.str "up", .str "down"]) = H4 at kT DT eL ⊢
        refine ⟨.str z, rfl, .ref L, rfl, L, _, 0, .str x0, rfl, rfl, SqL.of eL, atI_nat (j := 0) rfl, ?_⟩
        refine ⟨.ref d, rfl, d, c, ns, _, 12, rfl, DT, by omega, by omega, by omega, fun r6 H6 c0 c1 k6 D6 => ⟨(show 3 ≤ sizeLine by decide), fun p hp => ?_⟩⟩
        obtain ⟨kk, rfl⟩ := Int.eq_ofNat_of_zero_le c0
        obtain ⟨ex, hvs, hok, hnm⟩ := hex kk (by omega)
        exact q ex p _ hok hnm (At.free (kT.trans k6) D6 hp) ((kT.trans k6).nu D6 hp) ((D6.new hp).more (by omega)) (by rw [upd_same, hvs])
      · obtain ⟨m, ex, zs, hm, hcut, hvs, hne, hlen, hok, hnm⟩ := ht x0 x1 x2 v
        refine ⟨.str z, rfl, rfl, _, rfl, ite2 (fun y => absurd y (noS hn1)) (fun _ => ?_)⟩
        refine ⟨.str z, rfl, (show 2 ≤ sizeLine by decide), fun t ht => ⟨t, _, rfl, .inr (SqT.of upd_same), rfl, rfl, _, rfl, ite2 (fun y => absurd (hin.symm.trans y) (by decide)) (fun _ => ?_)⟩⟩
        have kT : Kept (At d) H (upd H' t (.tup [.str "up", .str "down"])) := kH.nu Di ht
        have DT : Dr (upd H' t (.tup [.str "up", .str "down"])) d c ns (n + 1 + 3) := Di.new ht
        have eL : upd H' t (.tup [.str "up", .str "down"]) L = some (.lst [.str x0, .str x1, .str x2]) := by rw [upd_ne (ne_of_none e2 ht)]; exact e2
        generalize upd H' t (.tup [.str "up", .str "down"]) = H4 at kT DT eL ⊢
        refine ⟨.str z, rfl, (show 1 ≤ sizeLine by decide), fun t2 ht2 => ?_⟩
        have kW : Kept (At d) H (upd H4 t2 (.tup [.str z])) := kT.nu DT ht2
        have DW : Dr (upd H4 t2 (.tup [.str z])) d c ns (n + 1 + 3) := DT.new ht2
        have eW2 : upd H4 t2 (.tup [.str z]) L = some (.lst [.str x0, .str x1, .str x2]) := by rw [upd_ne (ne_of_none eL ht2)]; exact eL
        have et2 : upd H4 t2 (.tup [.str z]) t2 = some (.tup [.str z]) := upd_same
        generalize upd H4 t2 (.tup [.str z]) = H4' at kW DW eW2 et2 ⊢
        refine ⟨.ref L, rfl, fun u hu4 => ?_⟩
        refine ⟨upd_same, manyD, rfl, (show 2 ≤ 15 by decide), u, rfl, .inl ⟨_, .inl upd_same⟩, .str z, rfl, valV (mergeK [] manyD) (Sum.inr z), DGet.k (k := Sum.inr z) upd_same, ?_⟩
        rw [hm]
        have kU : Kept (At d) H (upd (upd H4' u (.dK [])) u (.dK (mergeK [] manyD))) := (kW.nu DW hu4).new (At.free kW DW hu4)
        have eU : upd (upd H4' u (.dK [])) u (.dK (mergeK [] manyD)) = upd H4' u (.dK (mergeK [] manyD)) := by
          funext b
          by_cases hb : b = u
          · rw [hb, upd_same, upd_same]
          · rw [upd_ne hb, upd_ne hb, upd_ne hb]
        have DU : Dr (upd (upd H4' u (.dK [])) u (.dK (mergeK [] manyD))) d c ns (n + 1 + 3) := by
          rw [eU]; exact DW.new hu4
        have eL2 : upd (upd H4' u (.dK [])) u (.dK (mergeK [] manyD)) L = some (.lst [.str x0, .str x1, .str x2]) := by
          rw [eU, upd_ne (ne_of_none eW2 hu4)]; exact eW2
        have et3 : upd (upd H4' u (.dK [])) u (.dK (mergeK [] manyD)) t2 = some (.tup [.str z]) := by
          rw [eU, upd_ne (ne_of_none et2 hu4)]; exact et2
        generalize upd (upd H4' u (.dK [])) u (.dK (mergeK [] manyD)) = H5 at kU DU eL2 et3 ⊢
        refine ⟨m, rfl, L, _, rfl, SqL.of eL2, fun l hl => ?_⟩
        refine .inl ⟨l, _, rfl, SqL.of upd_same, fun M hM => ?_⟩
        have hcut : cutV (List.map V.str [x0, x1, x2]) none (some m) = zs := hcut
        have e5 : upd H5 l (.lst (cutV (List.map V.str [x0, x1, x2]) none (some m))) t2 = some (.tup [.str z]) := by rw [upd_ne (ne_of_none et3 hl)]; exact et3
        have tM : t2 ≠ M := ne_of_none e5 hM
        have kV : Kept (At d) H (upd H5 l (.lst (cutV (List.map V.str [x0, x1, x2]) none (some m)))) := kU.nu DU hl
        have DV : Dr (upd H5 l (.lst (cutV (List.map V.str [x0, x1, x2]) none (some m)))) d c ns (n + 1 + 3) := DU.new hl
        refine ⟨t2, M, [.str z], cutV (List.map V.str [x0, x1, x2]) none (some m), rfl, rfl, SqT.of (by rw [upd_ne tM]; exact e5), SqT.of upd_same, (fun y => nomatch y), by rw [hcut, List.length_singleton]; omega, (fun y => absurd (hcut.symm.trans y) hne), fun _ o ho => ?_⟩
        exact q ex o _ hok (fun x hx => by
          rcases hnm x hx with rfl | rfl | rfl
          · exact m0
          · exact m1
          · exact m2) (At.free (kV.nu DV hM) (DV.new hM) ho) ((kV.nu DV hM).nu (DV.new hM) ho) (((DV.new hM).new ho).more (by omega)) (by rw [upd_same, hcut, hvs]; rfl)
end
end K12

set_option Elab.async false
set_option linter.all false
set_option maxRecDepth 100000
set_option maxHeartbeats 4000000
namespace K12
open PySem PySem.Spec PyProof.Rows L2
/-! ### the least, the greatest word, what is common -/
abbrev sLeastWord : Stmt := top 9
theorem scLeastWord : FnScope ["facts"] ["facts"] (defScope sLeastWord) := ⟨rfl, rfl, rfl, by decide +kernel, rfl, by decide +kernel, by decide +kernel⟩
abbrev sGreatestWord : Stmt := top 10
theorem scGreatestWord : FnScope ["wide", "facts"] ["wide", "facts"] (defScope sGreatestWord) := ⟨rfl, rfl, rfl, by decide +kernel, rfl, by decide +kernel, by decide +kernel⟩
def spLeast (K : PySem.W.Frag) : Sp := fun vs H Q _ => ∃ (p : Addr) (y : F2), vs = [.ref p] ∧ SqT K H p (twoF y) ∧ Q (.int ((y.2 : Nat) : Int)) H
def spGreat (K : PySem.W.Frag) : Sp := fun vs H Q _ => ∃ (p : Addr) (v : Nat) (y : F2), vs = [.int (v : Int), .ref p] ∧ SqT K H p (twoF y) ∧ v ≤ 12 ∧ Q (.int ((most v ^^^ y.1 : Nat) : Int)) H
theorem vals_sum (x : Nat) : ∀ n : Nat, ((List.range n).map fun k => b01 (B x k) * 2 ^ k).sum = x % 2 ^ n
  | 0 => by rw [Nat.pow_zero, Nat.mod_one]; rfl
  | n + 1 => by
    rw [List.range_succ, List.map_append, List.sum_append, vals_sum x n, mod_succ]
    simp [Nat.mul_comm]
theorem vals_all {x v : Nat} (h : x < 2 ^ v) : ((List.range v).map fun k => b01 (B x k) * 2 ^ k).sum = x := by rw [vals_sum, Nat.mod_eq_of_lt h]
theorem low_bit {v : Nat} {y : F2} (c : Fc v y) {k : Nat} (hk : k < v) {m : Nat} (h1 : m ∈ bs y k) (h2 : ∀ n ∈ bs y k, m ≤ n) : m = b01 (B y.2 k) := by
  have e : bs y k = if B y.1 k = true then [0] else if B y.2 k = true then [1] else [0, 1] := rfl
  rw [e] at h1 h2
  rcases c.three hk with ⟨q1, q2⟩ | ⟨q1, q2⟩ | ⟨q1, q2, _⟩
  · rw [q1] at h1; rw [q2]; exact List.mem_singleton.mp h1
  · rw [q1, q2] at h1; rw [q2]; exact List.mem_singleton.mp h1
  · rw [q1, q2] at h2
    rw [q2]
    have := h2 0 (by simp)
    show m = 0
    omega
theorem xor_bit {v : Nat} (z : Nat) {k : Nat} (hk : k < v) : B (most v ^^^ z) k = !B z k := by
  show (most v ^^^ z).testBit k = _
  unfold most
  rw [Nat.testBit_xor, Nat.testBit_two_pow_sub_one, decide_eq_true hk, Bool.true_xor]
theorem high_bit {v : Nat} {y : F2} (c : Fc v y) {k : Nat} (hk : k < v) {m : Nat} (h1 : m ∈ bs y k) (h2 : ∀ n ∈ bs y k, n ≤ m) : m = b01 (B (most v ^^^ y.1) k) := by
  rw [xor_bit _ hk]
  have e : bs y k = if B y.1 k = true then [0] else if B y.2 k = true then [1] else [0, 1] := rfl
  rw [e] at h1 h2
  rcases c.three hk with ⟨q1, q2⟩ | ⟨q1, q2⟩ | ⟨q1, q2, _⟩
  · rw [q1] at h1 ⊢; simpa [b01] using h1
  · rw [q1, q2] at h1; rw [q1]; simpa [b01] using h1
  · rw [q1, q2] at h1 h2
    rw [q1]
    have := h2 1 (by simp)
    have : m = 0 ∨ m = 1 := by simpa using h1
    show m = 1
    omega
theorem int_mem {l : List Nat} {m : Int} (h : m ∈ l.map fun n : Nat => (n : Int)) : ∃ n : Nat, m = (n : Int) ∧ n ∈ l := by
  obtain ⟨n, h1, h2⟩ := List.mem_map.mp h
  exact ⟨n, h2.symm, h1⟩
def dL (a b : Nat) : PyData := numsD [a, b]
theorem dL_ok {z o : Nat} (hz : z < 5000) (ho : o < 5000) : (dL z o).showable = true ∧ (dL z o).shown.length ≤ sizeLine := by
  have a := short_int (i := (z : Int)) (by omega) (by omega)
  have b := short_int (i := (o : Int)) (by omega) (by omega)
  have c := show_int (i := (z : Int)) (by omega) (by omega)
  have d := show_int (i := (o : Int)) (by omega) (by omega)
  constructor
  · show (PyData.showable (PyData.int (z : Int)) && (PyData.showable (PyData.int (o : Int)) && true)) = true
    rw [c, d]; rfl
  · have e := PyData.shown_le_bulk 2000 (by decide) (dL z o) (by
      show (PyData.leavesShort 2000 (PyData.int (z : Int)) && (PyData.leavesShort 2000 (PyData.int (o : Int)) && true)) = true
      rw [a, b]; rfl)
    have f : (dL z o).bulk = 2 := rfl
    rw [f] at e
    rw [sizeLine_eq]
    omega
/-- a comprehension over enumerate(bits): a number for each bit -/
theorem vals_bl {K : PySem.W.Frag} {v : Nat} {f : F2} {L : Addr} {H1 : Hp} {te : TE} {x0 x1 x2 x3 : Option V} {Qd : Hp → Prop} {D : Addr} {p : Nat → Nat} (hD : H1 D = none) (hv : v ≤ 100) (hL : BL H1 L v f)
    (hte : ∀ (i : Nat) (T : Addr) (H' : Hp) (R : VK), i < v → H' T = some (.lst (nums (bs f i))) → R (.int ((p i : Nat) : Int)) H' → te [x0, x1, x2, x3, none, none, some (.int (i : Int)), some (.ref T), none, none] H' R)
    (q : ∀ H', Kept None H1 H' → H' D = some (.lst (nums ((List.range v).map p))) → Qd H') :
    ∃ W : Nat → Nat → Hp → Prop, (∃ m, W 0 m (upd H1 D (.lst []))) ∧ ∀ i m H, W i m H → ((Ite K L).stop i H ∧ Qd H) ∨
      ((Ite K L).go i H ∧ ∃ Nx : Hp → Prop, (∀ H', Nx H' → ∃ m', m' < m ∧ W (i + 1) m' H') ∧ ∀ x H', (Ite K L).yld i H x H' → gTup K 2 (gCons (gName 6) (gCons (gName 7) gNil)) x (wipe [x0, x1, x2, x3, none, none, none, none, none, none] [6, 7]) H' fun σ2 H2 => wipe σ2 [6, 7] = wipe [x0, x1, x2, x3, none, none, none, none, none, none] [6, 7] ∧ tYes σ2 H2 fun b H3 =>
        if b = true then te σ2 H3 fun y H4 => ∃ acc, H4 D = some (.lst acc) ∧ acc.length < sizeLine ∧ Nx (upd H4 D (.lst (acc ++ [y]))) else Nx H3) := by
  obtain ⟨ts, e1, e2, e3⟩ := hL.ex
  refine lc_it (walk_enum (K := K) (a := L) (xs := ts.map V.ref)) (fun i H' => Kept None H1 H' ∧ H' D = some (.lst (nums ((List.range i).map p)))) ⟨Kept.refl.new hD, upd_same⟩ (fun i H' _ h => SqL.of (h.1.lst e2 (fun z => z))) (fun i x H' H2 hi h y => ?_) (fun H' h => ?_)
  · obtain ⟨k1, eD⟩ := h
    obtain ⟨T, a', x', rfl, hT, rfl, ea, ex⟩ := y
    cases ea
    rw [List.length_map] at hi
    have ex : (ts.map V.ref)[i]? = some x' := ex
    rw [List.getElem?_map, List.getElem?_eq_getElem hi] at ex
    cases ex
    have et := e3 i _ (List.getElem?_eq_getElem hi)
    have k2 : Kept None H1 (upd H' T (.tup [.int (i : Int), .ref ts[i]])) := k1.new (k1.free hT)
    have eD2 : upd H' T (.tup [.int (i : Int), .ref ts[i]]) D = some (.lst (nums ((List.range i).map p))) := by rw [upd_ne (ne_of_none eD hT)]; exact eD
    refine ⟨T, _, rfl, SqT.of upd_same, rfl, .int (i : Int), [.ref ts[i]], rfl, .ref ts[i], [], rfl, rfl, ?_⟩
    generalize upd H' T (.tup [.int (i : Int), .ref ts[i]]) = H3 at k2 eD2 ⊢
    refine ⟨rfl, hte i ts[i] H3 _ (by omega) (k2.lst et (fun z => z)) ⟨_, eD2, by rw [nums_len, List.length_map, List.length_range, sizeLine_eq]; omega, k2.new hD, ?_⟩⟩
    rw [upd_same, List.range_succ, List.map_append]
    exact congrArg (fun l => some (HO.lst l)) (nums_snoc _ _).symm
  · obtain ⟨k1, eD⟩ := h
    rw [List.length_map, e1] at eD
    exact q H' k1 eD
abbrev sWR : Stmt := top 40
abbrev nWR : List PySem.Str := ["wide", "one", "other", "low", "high", "both", "k", "some", "left", "right"]
theorem scWR : FnScope ["wide", "one", "other", "low", "high", "both", "k", "some", "left", "right"] ["wide", "one", "other"] (defScope sWR) := ⟨rfl, rfl, rfl, by decide +kernel, rfl, by decide +kernel, by decide +kernel⟩
def spWR : Sp := fun vs H Q _ => ∃ (L R : Addr) (v : Nat) (y z : F2), vs = [.int (v : Int), .ref L, .ref R] ∧ 1 ≤ v ∧ v ≤ 12 ∧ Fc v y ∧ Fc v z ∧ BL H L v y ∧ BL H R v z ∧ ∀ H', Kept None H H' → Q (.bl true) H'
section
variable {P : Program} {w : World} {K : PySem.W.Frag} {mg : PySem.Str → Option Value} {base : Heap} {f : Addr} {fd : FuncData}
theorem ok_least (F : FnP K "least_word" sLeastWord f fd) : FnOk P w K mg base CX0 1 f fd ["facts"] (spLeast K) := by
  refine F.ok (k := 0) scLeastWord (fun vs H Q E h => ?_) (fun cdv A outer s H vs Q E hr h => ?_)
  · obtain ⟨p, y, rfl, _⟩ := h
    rfl
  · obtain ⟨p, y, rfl, hs, q⟩ := h
    refine ⟨_, PSs.nox (pss_one (ps_ret (pe_ix ix_tup (pv 0) pe_int (fun _ _ => rfl)))), ?_⟩
    exact ⟨.ref p, rfl, p, twoF y, 1, .int ((y.2 : Nat) : Int), rfl, rfl, hs, atI_nat (j := 1) rfl, q⟩
theorem ok_great (F : FnP K "greatest_word" sGreatestWord f fd) : FnOk P w K mg base CX0 1 f fd ["wide", "facts"] (spGreat K) := by
  refine F.ok (k := 0) scGreatestWord (fun vs H Q E h => ?_) (fun cdv A outer s H vs Q E hr h => ?_)
  · obtain ⟨p, v, y, rfl, _⟩ := h
    rfl
  · obtain ⟨p, v, y, rfl, hs, w2, q⟩ := h
    refine ⟨_, PSs.nox (pss_one (ps_ret (pe_op n_xor (pe_op n_sub (pe_op n_bit pe_int (pv 0)) pe_int) (pe_ix ix_tup (pv 1) pe_int (fun _ _ => rfl))))), ?_⟩
    exact ⟨.int v, rfl, v, rfl, rfl, by omega, 2 ^ v, 1, rfl, rfl, pow_pos', .ref p, rfl, p, twoF y, 0, .int ((y.1 : Nat) : Int), rfl, rfl, hs, atI_nat (j := 0) rfl, most v, y.1, rfl, rfl, q⟩
theorem fc_of {w : Nat} {S : Nat → Prop} {f : F2} (t : Tells w S f) (ne : ∃ s, S s) : Fc w f := by
  obtain ⟨s, hs⟩ := ne
  refine ⟨t.hz, t.ho, b_ext fun i => ?_⟩
  show (f.1 &&& f.2).testBit i = (0 : Nat).testBit i
  rw [Nat.testBit_and, Nat.zero_testBit]
  by_cases h : i < w
  · cases e1 : f.1.testBit i with
    | false => rfl
    | true =>
      cases e2 : f.2.testBit i with
      | false => rfl
      | true => exact (no_ft ((t.bz i h).mp e1 s hs) ((t.bo i h).mp e2 s hs)).elim
  · rw [Nat.testBit_lt_two_pow (Nat.lt_of_lt_of_le t.hz (Nat.pow_le_pow_right (by decide) (by omega)))]; rfl
theorem fc_ex {w : Nat} (hw : 1 ≤ w) {g : PySem.Str → F2} {e : Ex} (ok : Ex.ok w e) (hf : ∀ x ∈ e.names, Fc w (g x)) : Fc w (exF (most w) g e) := by
  cases e with
  | num n => exact fc_of (tells_num ok) ⟨n, rfl⟩
  | copy y => exact hf y (by simp [Ex.names])
  | up y k =>
    have c := hf y (by simp [Ex.names])
    exact fc_of (tells_up c) ⟨_, _, fit_least c, rfl⟩
  | down y k =>
    have c := hf y (by simp [Ex.names])
    exact fc_of (tells_down c) ⟨_, _, fit_least c, rfl⟩
  | pick c y z =>
    have c1 := hf c (by simp [Ex.names])
    have c2 := hf y (by simp [Ex.names])
    have c3 := hf z (by simp [Ex.names])
    exact fc_of (tells_pick c1 c2 c3) ⟨_, _, _, _, fit_least c1, fit_least c2, fit_least c3, rfl⟩
  | two o y z =>
    have c1 := hf y (by simp [Ex.names])
    have c2 := hf z (by simp [Ex.names])
    have ne : ∀ h : Nat → Nat → Nat, ∃ s, Of2 w (g y) (g z) h s := fun h => ⟨_, _, _, fit_least c1, fit_least c2, rfl⟩
    cases o with
    | add => exact fc_of (tells_sum c1 c2) (ne _)
    | less => exact fc_of (tells_diff c1 c2) (ne _)
    | and => exact fc_of (tells_both c1 c2) (ne _)
    | or => exact fc_of (tells_either c1 c2) (ne _)
    | unlike => exact fc_of (tells_unlike c1 c2) (ne _)
    | same => exact fc_of (tells_same hw c1 c2) (ne _)
    | below => exact fc_of (tells_below hw c1 c2) (ne _)
theorem tells_common {w : Nat} {y z : F2} (cy : Fc w y) (cz : Fc w z) : Tells w (fun s => Fit w y s ∨ Fit w z s) (fCommon y z) := tells_or (tells_copy cy) (tells_copy cz)
theorem fc_common {w : Nat} {y z : F2} (cy : Fc w y) (cz : Fc w z) : Fc w (fCommon y z) := fc_of (tells_common cy cz) ⟨_, .inl (fit_least cy)⟩
theorem common_bits {w : Nat} {y z : F2} (cy : Fc w y) (cz : Fc w z) {k : Nat} (hk : k < w) : set01 (bs y k ++ bs z k) = bs (fCommon y z) k := by
  refine bs_set (tells_common cy cz) ⟨_, .inl (fit_least cy)⟩ hk fun n => ?_
  rw [List.mem_append, bs_mem cy hk, bs_mem cz hk]
  constructor
  · rintro (⟨s, h, e⟩ | ⟨s, h, e⟩)
    · exact ⟨s, .inl h, e⟩
    · exact ⟨s, .inr h, e⟩
  · rintro ⟨s, h | h, e⟩
    · exact .inl ⟨s, h, e⟩
    · exact .inr ⟨s, h, e⟩
theorem small5 {w : Nat} {f : F2} (h : w ≤ 12) (c : Fc w f) : f.1 < 5000 ∧ f.2 < 5000 := by
  have := pow_bound h
  have := c.hz
  have := c.ho
  omega
end
end K12

set_option Elab.async false
set_option linter.all false
set_option maxRecDepth 100000
set_option maxHeartbeats 4000000
namespace K12
open PySem PySem.Spec PyProof.Rows L2
section
variable {P : Program} {w : World} {K : PySem.W.Frag} {mg : PySem.Str → Option Value} {base : Heap} {f : Addr} {fd : FuncData}
theorem ok_wr (F : FnP K "_law_words_right" sWR f fd) (dF : Def P w K mg base 1 "_law_facts" ["bits"] (spLFacts K)) (dE : Def P w K mg base 1 "least_word" ["facts"] (spLeast K)) (dG : Def P w K mg base 1 "greatest_word" ["wide", "facts"] (spGreat K)) (dC : Def P w K mg base 1 "common_facts" ["one", "other"] (spCommon K))
    (m_sum : mg "sum" = none) (m_min : mg "min" = none) (m_max : mg "max" = none) (m_enumerate : mg "enumerate" = none) (m_zip : mg "zip" = none) (m_sorted : mg "sorted" = none) (m_set : mg "set" = none) (m_repr : mg "repr" = none) : FnG P w K mg base 2 f fd ["wide", "one", "other"] spWR := by
  obtain ⟨fF, fdF, GF, bF, kF, gF⟩ := dF
  obtain ⟨fE, fdE, GE, bE, kE, gE⟩ := dE
  obtain ⟨fG, fdG, GG, bG, kG, gG⟩ := dG
  obtain ⟨fC, fdC, GC, bC, kC, gC⟩ := dC
  refine fnG_of (k := 1) F scWR (fun vs H Q E h => ?_) (fun cdv A outer s H vs Q E gd hr h => ?_)
  · obtain ⟨L, R, v, y, z, rfl, _⟩ := h
    rfl
  · obtain ⟨L, R, v, y, z, rfl, v1, v2, cy, cz, hL, hR, q⟩ := h
    have hsz := sizeLine_eq
    refine ⟨_, PSs.nox (pss_cons (ps_set (i := 3) scWR.nd rfl (Or.inl rfl) (pe_callB (cr_sumE rfl) (by rfl) m_sum (by decide +kernel) (pa_cons (pe_lc (own := [("k", 6), ("some", 7)]) (g := gTup K 2 (gCons (gName 6) (gCons (gName 7) gNil))) (tt := tYes) (te := tOp rShlN (tCB (rMin K) (tCons (tVar 7) tNil)) (tVar 6)) rfl scWR.nd (pi_enum (by rfl) m_enumerate (pa_cons (pv 1) pa_nil)) (blkOk_by (own := [("k", 6), ("some", 7)]) (N := nWR) (sc := defScope sWR) (by decide +kernel)) (by exact (fun _ _ _ _ _ => (pg_tup rfl (pgs_cons (pg_name (i := 6) scWR.nd rfl (Or.inl rfl)) (pgs_cons (pg_name (i := 7) scWR.nd rfl (Or.inl rfl)) pgs_nil))))) (by exact (fun _ _ _ _ _ => pts_nil)) (by exact (fun _ _ _ _ _ => (pe_op n_shl (pe_callB (cr_min rfl) (by rfl) m_min (by decide +kernel) (pa_cons (pv 7) pa_nil)) (pv 6))))) pa_nil)))
    (pss_cons (ps_set (i := 4) scWR.nd rfl (Or.inl rfl) (pe_callB (cr_sumE rfl) (by rfl) m_sum (by decide +kernel) (pa_cons (pe_lc (own := [("k", 6), ("some", 7)]) (g := gTup K 2 (gCons (gName 6) (gCons (gName 7) gNil))) (tt := tYes) (te := tOp rShlN (tCB (rMax K) (tCons (tVar 7) tNil)) (tVar 6)) rfl scWR.nd (pi_enum (by rfl) m_enumerate (pa_cons (pv 1) pa_nil)) (blkOk_by (own := [("k", 6), ("some", 7)]) (N := nWR) (sc := defScope sWR) (by decide +kernel)) (by exact (fun _ _ _ _ _ => (pg_tup rfl (pgs_cons (pg_name (i := 6) scWR.nd rfl (Or.inl rfl)) (pgs_cons (pg_name (i := 7) scWR.nd rfl (Or.inl rfl)) pgs_nil))))) (by exact (fun _ _ _ _ _ => pts_nil)) (by exact (fun _ _ _ _ _ => (pe_op n_shl (pe_callB (cr_max rfl) (by rfl) m_max (by decide +kernel) (pa_cons (pv 7) pa_nil)) (pv 6))))) pa_nil)))
    (pss_cons (ps_if (pt_cmpR op_ne (pe_callB (call_reprL gd hr) (by rfl) m_repr (by decide +kernel) (pa_cons (pe_lst (pa_cons (pe_call GE hr (by rfl) gE kE bE .nil pass0 (pa_cons (pe_call GF hr (by rfl) gF kF bF .nil pass0 (pa_cons (pv 1) pa_nil)) pa_nil)) (pa_cons (pe_call GG hr (by rfl) gG kG bG .nil pass0 (pa_cons (pv 0) (pa_cons (pe_call GF hr (by rfl) gF kF bF .nil pass0 (pa_cons (pv 1) pa_nil)) pa_nil))) pa_nil))) pa_nil)) (pe_callB (call_reprL gd hr) (by rfl) m_repr (by decide +kernel) (pa_cons (pe_lst (pa_cons (pv 3) (pa_cons (pv 4) pa_nil))) pa_nil)) (nomark _))
      (pss_one (ps_ret pe_bl))
      pss_nil)
    (pss_cons (ps_setLc (i := 5) (own := [("left", 8), ("right", 9)]) (g := gTup K 2 (gCons (gName 8) (gCons (gName 9) gNil))) (tt := tYes) (te := tCB (rSortedSet w) (tCons (tCB (rSetL K w) (tCons (tOp rCat (tVar 8) (tVar 9)) tNil)) tNil)) rfl scWR.nd rfl rfl (sw_true rfl rfl rfl (by decide +kernel)) (pi_zip (by rfl) m_zip (pa_cons (pv 1) (pa_cons (pv 2) pa_nil))) (blkOk_by (own := [("left", 8), ("right", 9)]) (N := nWR) (sc := defScope sWR) (by decide +kernel)) (by exact (fun _ _ _ _ _ => (pg_tup rfl (pgs_cons (pg_name (i := 8) scWR.nd rfl (Or.inl rfl)) (pgs_cons (pg_name (i := 9) scWR.nd rfl (Or.inl rfl)) pgs_nil))))) (by exact (fun _ _ _ _ _ => pts_nil)) (by exact (fun _ _ _ _ _ => (pe_callB (cr_sortedSet rfl) (by rfl) m_sorted (by decide +kernel) (pa_cons (pe_callTy (cr_setL rfl) (by rfl) m_set (by decide +kernel) (pa_cons (pe_op op_cat (pv 8) (pv 9)) pa_nil)) pa_nil)))))
    (pss_one (ps_ret (pe_cmpR op_eq (pe_callB (call_reprL gd hr) (by rfl) m_repr (by decide +kernel) (pa_cons (pe_call GC hr (by rfl) gC kC bC .nil pass0 (pa_cons (pe_call GF hr (by rfl) gF kF bF .nil pass0 (pa_cons (pv 1) pa_nil)) (pa_cons (pe_call GF hr (by rfl) gF kF bF .nil pass0 (pa_cons (pv 2) pa_nil)) pa_nil))) pa_nil)) (pe_callB (call_reprL gd hr) (by rfl) m_repr (by decide +kernel) (pa_cons (pe_call GF hr (by rfl) gF kF bF .nil pass0 (pa_cons (pv 5) pa_nil)) pa_nil)) (nomark _)))))))), ?_⟩
    obtain ⟨ts, t1, t2, t3⟩ := hL.ex
    obtain ⟨rs, r1, r2, r3⟩ := hR.ex
    have intL : ∀ {H' : Hp} {T : Addr} {i : Nat}, H' T = some (.lst (nums (bs y i))) → SqL K H' T (((bs y i).map fun n : Nat => (n : Int)).map V.int) := fun {H' T i} e => SqL.of (by rw [e]; unfold nums; rw [List.map_map]; rfl)
    have pos : ∀ i, 0 < ((bs y i).map fun n : Nat => (n : Int)).length := fun i => by
      rw [List.length_map]
      unfold bs
      split
      · decide
      · split <;> decide
    have e12 : ∀ i, i < v → b01 (B y.2 i) * 2 ^ i ≤ 4096 := fun i hi => by
      have h1 := b01_le (B y.2 i)
      have h2 : 2 ^ i ≤ 2 ^ 12 := Nat.pow_le_pow_right (by decide) (by omega)
      have := Nat.mul_le_mul h1 h2
      omega
    refine ⟨.ref L, rfl, L, ts.map V.ref, rfl, SqL.of t2, fun D hD => vals_bl hD (p := fun i => b01 (B y.2 i) * 2 ^ i) (by omega) hL (fun i T H2 R hi et hR' => ?_) (fun H2 k2 eD => ?_)⟩
    · refine ⟨.ref T, rfl, T, _, rfl, intL et, pos i, fun m hm hle => ?_⟩
      obtain ⟨n, rfl, hn⟩ := int_mem hm
      have en := low_bit cy hi hn fun n' hn' => by
        have := hle (n' : Int) (List.mem_map.mpr ⟨n', hn', rfl⟩)
        omega
      have := b01_le (B y.2 i)
      refine ⟨.int (i : Int), rfl, n, i, rfl, rfl, ⟨by omega, by omega⟩, ?_⟩
      rw [en]
      exact hR'
    refine ⟨D, _, y.2, rfl, eD, vals_all cy.ho, ?_⟩
    have hL2 := hL.kept k2 fun _ z => z
    obtain ⟨ts', _, t2', _⟩ := hL2.ex
    refine ⟨.ref L, rfl, L, ts'.map V.ref, rfl, SqL.of t2', fun D2 hD2 => vals_bl hD2 (p := fun i => b01 (B (most v ^^^ y.1) i) * 2 ^ i) (by omega) hL2 (fun i T H3 R hi et hR' => ?_) (fun H3 k3 eD3 => ?_)⟩
    · refine ⟨.ref T, rfl, T, _, rfl, intL et, pos i, fun m hm hle => ?_⟩
      obtain ⟨n, rfl, hn⟩ := int_mem hm
      have en := high_bit cy hi hn fun n' hn' => by
        have := hle (n' : Int) (List.mem_map.mpr ⟨n', hn', rfl⟩)
        omega
      have := b01_le (B (most v ^^^ y.1) i)
      refine ⟨.int (i : Int), rfl, n, i, rfl, rfl, ⟨by omega, by omega⟩, ?_⟩
      rw [en]
      exact hR'
    have hi_lt : most v ^^^ y.1 < 2 ^ v := Nat.xor_lt_two_pow (by have := most_pow v; omega) cy.hz
    refine ⟨D2, _, most v ^^^ y.1, rfl, eD3, vals_all hi_lt, ?_⟩
    have k4 := k2.trans k3
    have hL4 := hL.kept k4 fun _ z => z
    have hR4 := hR.kept k4 fun _ z => z
    clear hL2 t2' eD eD3 k2 k3 hD2
    have h12 := pow_bound v2
    have z2 : y.2 < 5000 := (small5 v2 cy).2
    obtain ⟨sh, len⟩ := dL_ok (z := y.2) (o := most v ^^^ y.1) z2 (by omega)
    -- told by the two functions, and by the bits
    refine ⟨.ref L, rfl, L, v, y, rfl, by omega, cy, hL4, fun t H5 k5 s5 => ⟨t, y, rfl, s5, .int (v : Int), rfl, .ref L, rfl, L, v, y, rfl, by omega, cy, hL4.kept k5 fun _ z => z, fun t' H6 k6 s6 => ⟨t', v, y, rfl, s6, v2, (show 2 ≤ sizeLine by decide), fun p hp => ?_⟩⟩⟩
    have k7 : Kept None H (upd H6 p (.lst [.int ((y.2 : Nat) : Int), .int ((most v ^^^ y.1 : Nat) : Int)])) := ((k4.trans k5).trans k6).trans (Kept.refl.new hp)
    have e7 : upd H6 p (.lst [.int ((y.2 : Nat) : Int), .int ((most v ^^^ y.1 : Nat) : Int)]) p = some (.lst (nums [y.2, most v ^^^ y.1])) := upd_same
    generalize upd H6 p (.lst [.int ((y.2 : Nat) : Int), .int ((most v ^^^ y.1 : Nat) : Int)]) = H7 at k7 e7 ⊢
    refine ⟨p, dL y.2 (most v ^^^ y.1), rfl, .lst (SqL.of e7) (dpNums _), sh, rfl, by show 1 ≤ 100; decide, len, .int ((y.2 : Nat) : Int), rfl, .int ((most v ^^^ y.1 : Nat) : Int), rfl, (show 2 ≤ sizeLine by decide), fun p2 hp2 => ?_⟩
    have k8 : Kept None H (upd H7 p2 (.lst [.int ((y.2 : Nat) : Int), .int ((most v ^^^ y.1 : Nat) : Int)])) := k7.trans (Kept.refl.new hp2)
    have e8 : upd H7 p2 (.lst [.int ((y.2 : Nat) : Int), .int ((most v ^^^ y.1 : Nat) : Int)]) p2 = some (.lst (nums [y.2, most v ^^^ y.1])) := upd_same
    generalize upd H7 p2 (.lst [.int ((y.2 : Nat) : Int), .int ((most v ^^^ y.1 : Nat) : Int)]) = H8 at k8 e8 ⊢
    refine ⟨p2, dL y.2 (most v ^^^ y.1), rfl, .lst (SqL.of e8) (dpNums _), sh, rfl, by show 1 ≤ 100; decide, len, rfl, ?_⟩
    rw [decide_eq_true rfl]
    refine ⟨_, rfl, iteF ?_⟩
    -- what is common, bit by bit
    have l8 := k8.lst t2 fun z => z
    have r8 := k8.lst r2 fun z => z
    refine ⟨.ref L, rfl, .ref R, rfl, L, R, _, _, rfl, SqL.of l8, SqL.of r8, fun Z hZ => ?_⟩
    refine lc_it (walk_zip (K := K) (a := L) (b := R) (xs := ts.map V.ref) (ys := rs.map V.ref) (n := v) (by rw [List.length_map, List.length_map, t1, r1, Nat.min_self])) (fun i H' => ∃ us, Bu H8 H' Z (fCommon y z) i us) ⟨[], Bu.new hZ⟩ (fun i H' _ h => ?_) (fun i x H' H2 hi h w => ?_) (fun H' h => ?_)
    · obtain ⟨_, b⟩ := h
      exact ⟨SqL.of (b.k.lst l8 fun z => z), SqL.of (b.k.lst r8 fun z => z)⟩
    · obtain ⟨us, b⟩ := h
      obtain ⟨T, a', x', rfl, hT, rfl, ea, ex⟩ := w
      have ea : (ts.map V.ref)[i]? = some a' := ea
      have ex : (rs.map V.ref)[i]? = some x' := ex
      rw [List.getElem?_map, List.getElem?_eq_getElem (by omega)] at ea ex
      cases ea
      cases ex
      have ka : Kept None H' (upd H' T (.tup [.ref ts[i], .ref rs[i]])) := Kept.refl.new hT
      refine ⟨T, _, rfl, SqT.of upd_same, rfl, .ref ts[i], [.ref rs[i]], rfl, .ref rs[i], [], rfl, rfl, ?_⟩
      have b1 := b.stay ka
      generalize upd H' T (.tup [.ref ts[i], .ref rs[i]]) = H9 at b1 ⊢
      have ey := b1.k.lst (k8.lst (t3 i _ (List.getElem?_eq_getElem (by omega))) fun z => z) fun z => z
      have ez := b1.k.lst (k8.lst (r3 i _ (List.getElem?_eq_getElem (by omega))) fun z => z) fun z => z
      have lb := bs_len y i
      have rb := bs_len z i
      refine ⟨rfl, .ref ts[i], rfl, .ref rs[i], rfl, ts[i], rs[i], _, _, rfl, rfl, ey, ez, by rw [nums_len, nums_len]; omega, fun l hl => ?_⟩
      have kl : Kept None H9 (upd H9 l (.lst (nums (bs y i) ++ nums (bs z i)))) := Kept.refl.new hl
      have el : upd H9 l (.lst (nums (bs y i) ++ nums (bs z i))) l = some (.lst (nums (bs y i ++ bs z i))) := by
        rw [upd_same]; unfold nums; rw [List.map_append]
      generalize upd H9 l (.lst (nums (bs y i) ++ nums (bs z i))) = Ha at kl el ⊢
      unfold tNil
      refine ss01_go el (by rw [List.length_append]; omega) (fun n hn => ?_) (fun y H' h => h) fun p1 Hb kb hp1 eb => ?_
      · rcases List.mem_append.mp hn with h | h
        · exact bs_le h
        · exact bs_le h
      rw [common_bits cy cz hi] at eb
      have b5 := b1.stay (kl.trans kb)
      have n1 : p1 ≠ Z := (ne_of_none (b1.stay kl).l hp1).symm
      exact ⟨us.map V.ref, b5.l, by rw [List.length_map, b.n]; omega, _, b5.put hZ eb n1⟩
    · obtain ⟨us, b⟩ := h
      have k9 := k8.trans b.k
      have hL9 := hL.kept k9 fun _ z => z
      have hR9 := hR.kept k9 fun _ z => z
      obtain ⟨s1, s2⟩ := small5 v2 (fc_common cy cz)
      obtain ⟨sh2, len2⟩ := dF_ok (z := (fCommon y z).1) (o := (fCommon y z).2) s1 s2
      refine ⟨.ref L, rfl, L, v, y, rfl, by omega, cy, hL9, fun ta Ha ka sa => ⟨.ref R, rfl, R, v, z, rfl, by omega, cz, hR9.kept ka fun _ z => z, fun tb Hb kb sb => ⟨ta, tb, y, z, rfl, kb.sqt sa fun z => z, sb, fun tc Hc kc sc => ?_⟩⟩⟩
      refine ⟨tc, dF (fCommon y z).1 (fCommon y z).2, rfl, dpTwo sc, sh2, rfl, by show 1 ≤ 100; decide, len2, .ref Z, rfl, Z, v, fCommon y z, rfl, by omega, fc_common cy cz, b.bl.kept ((ka.trans kb).trans kc) fun _ z => z, fun td Hd kd sd => ?_⟩
      refine ⟨td, dF (fCommon y z).1 (fCommon y z).2, rfl, dpTwo sd, sh2, rfl, by show 1 ≤ 100; decide, len2, rfl, ?_⟩
      rw [decide_eq_true rfl]
      exact q Hd (k9.trans (((ka.trans kb).trans kc).trans kd))
end
end K12

set_option Elab.async false
set_option linter.all false
set_option maxRecDepth 100000
set_option maxHeartbeats 8000000
namespace K12
open PySem PySem.Spec PyProof.Rows L2
/-! ### three names -/
def kv3 (v0 v1 v2 : V) : List (Key × V) := [(Sum.inr "x", v0), (Sum.inr "y", v1), (Sum.inr "z", v2)]
theorem merge3 (v0 v1 v2 : V) : mergeK [] (kv3 v0 v1 v2) = kv3 v0 v1 v2 := by
  have h1 : ("x" : PySem.Str) ≠ "y" := by decide
  have h2 : ("x" : PySem.Str) ≠ "z" := by decide
  have h3 : ("y" : PySem.Str) ≠ "z" := by decide
  simp [mergeK, kv3, putK, h1, h2, h3]
theorem kne {x y : PySem.Str} (h : x ≠ y) : (Sum.inr x : Key) ≠ Sum.inr y := fun z => h (Sum.inr.inj z)
theorem val3 (v0 v1 v2 : V) : valV (kv3 v0 v1 v2) (Sum.inr "x") = some v0 ∧ valV (kv3 v0 v1 v2) (Sum.inr "y") = some v1 ∧ valV (kv3 v0 v1 v2) (Sum.inr "z") = some v2 := by
  have h1 : ("x" : PySem.Str) ≠ "y" := by decide
  have h2 : ("x" : PySem.Str) ≠ "z" := by decide
  have h3 : ("y" : PySem.Str) ≠ "z" := by decide
  refine ⟨valV_pos rfl, ?_, ?_⟩
  · exact (valV_neg (kne h1)).trans (valV_pos rfl)
  · exact (valV_neg (kne h2)).trans ((valV_neg (kne h3)).trans (valV_pos rfl))
def g3 {α : Type} (f0 f1 f2 : α) : PySem.Str → α := fun x => if x = "x" then f0 else if x = "y" then f1 else f2
theorem g3_x {α : Type} (f0 f1 f2 : α) : g3 f0 f1 f2 "x" = f0 := if_pos rfl
theorem g3_y {α : Type} (f0 f1 f2 : α) : g3 f0 f1 f2 "y" = f1 := (if_neg (by decide)).trans (if_pos rfl)
theorem g3_z {α : Type} (f0 f1 f2 : α) : g3 f0 f1 f2 "z" = f2 := (if_neg (by decide)).trans (if_neg (by decide))
theorem xyz_cases {x : PySem.Str} (h : x ∈ xyz) : x = "x" ∨ x = "y" ∨ x = "z" := by simpa [xyz] using h
theorem bd3 {H : Hp} {a : Addr} {v : Nat} {p0 p1 p2 : Addr} {f0 f1 f2 : F2} (e : H a = some (.dK (kv3 (.ref p0) (.ref p1) (.ref p2)))) (h0 : BL H p0 v f0) (h1 : BL H p1 v f1) (h2 : BL H p2 v f2) : BD H a xyz v (g3 f0 f1 f2) := by
  obtain ⟨a0, a1, a2⟩ := val3 (.ref p0) (.ref p1) (.ref p2)
  refine ⟨_, g3 p0 p1 p2, e, fun x hx => ?_⟩
  rcases xyz_cases hx with rfl | rfl | rfl
  · rw [g3_x, g3_x]; exact ⟨a0, h0⟩
  · rw [g3_y, g3_y]; exact ⟨a1, h1⟩
  · rw [g3_z, g3_z]; exact ⟨a2, h2⟩
theorem fd3 {K : PySem.W.Frag} {H : Hp} {a : Addr} {p0 p1 p2 : Addr} {f0 f1 f2 : F2} (e : H a = some (.dK (kv3 (.ref p0) (.ref p1) (.ref p2)))) (h0 : SqT K H p0 (twoF f0)) (h1 : SqT K H p1 (twoF f1)) (h2 : SqT K H p2 (twoF f2)) {ks : List PySem.Str} (hk : ∀ x ∈ ks, x ∈ xyz) : FD K H a ks (g3 f0 f1 f2) := by
  obtain ⟨a0, a1, a2⟩ := val3 (.ref p0) (.ref p1) (.ref p2)
  refine ⟨_, g3 p0 p1 p2, e, fun x hx => ?_⟩
  rcases xyz_cases (hk x hx) with rfl | rfl | rfl
  · rw [g3_x, g3_x]; exact ⟨a0, h0⟩
  · rw [g3_y, g3_y]; exact ⟨a1, h1⟩
  · rw [g3_z, g3_z]; exact ⟨a2, h2⟩
theorem fc3 {v : Nat} {f0 f1 f2 : F2} (h0 : Fc v f0) (h1 : Fc v f1) (h2 : Fc v f2) (x : PySem.Str) : Fc v (g3 f0 f1 f2 x) := by
  unfold g3
  split
  · exact h0
  · split
    · exact h1
    · exact h2
/-- a list of addresses is none of bits -/
theorem BL.off {H : Hp} {p L : Addr} {v : Nat} {f : F2} {ws : List Addr} {o : HO} (h : BL H p v f) (e : H L = some (.lst (ws.map V.ref))) (ne : p ≠ L) : BL (upd H L o) p v f := by
  obtain ⟨ts, n1, n2, n3⟩ := h.ex
  refine ⟨ts, n1, by rw [upd_ne ne]; exact n2, fun i t ht => ?_⟩
  have et := n3 i t ht
  rw [upd_ne fun z => ?_]
  · exact et
  · rw [z, e] at et
    have e2 : ws.map V.ref = nums (bs f i) := by injection et with q; injection q
    have e3 : bs f i ≠ [] := by
      unfold bs
      split
      · exact fun q => nomatch q
      · split <;> exact fun q => nomatch q
    cases hb : bs f i with
    | nil => exact e3 hb
    | cons n r =>
      rw [hb] at e2
      cases ws with
      | nil => cases e2
      | cons w ws => cases e2
theorem small_of {v : Nat} {e : Ex} (h : Ex.ok v e) : e.small := by
  cases e with
  | up y k =>
    have h : k ≤ 11 := h
    show k ≤ 100
    omega
  | down y k =>
    have h : k ≤ 11 := h
    show k ≤ 100
    omega
  | _ => trivial
theorem Dr.ne_tup {H : Hp} {d c b : Addr} {ns : List Int} {n : Nat} {xs : List V} (D : Dr H d c ns n) (e : H b = some (.tup xs)) : ¬ b = d := fun z => by
  obtain ⟨_, _, _, h, _⟩ := D.at_
  rw [z, h] at e
  cases e
theorem Dr.ne_lst {H : Hp} {d c b : Addr} {ns : List Int} {n : Nat} {xs : List V} (D : Dr H d c ns n) (e : H b = some (.lst xs)) : ¬ b = d := fun z => by
  obtain ⟨_, _, _, h, _⟩ := D.at_
  rw [z, h] at e
  cases e
theorem xyz_sign : ∀ i, i < 3 → ∃ (c : Nat) (x : PySem.Str), ("xyz" : PySem.Str).cps[i]? = some c ∧ (⟨#[c]⟩ : PySem.Str) = x ∧ xyz[i]? = some x := by
  intro i hi
  rcases (show i = 0 ∨ i = 1 ∨ i = 2 by omega) with rfl | rfl | rfl
  · exact ⟨120, "x", by decide +kernel, by decide +kernel, rfl⟩
  · exact ⟨121, "y", by decide +kernel, by decide +kernel, rfl⟩
  · exact ⟨122, "z", by decide +kernel, by decide +kernel, rfl⟩
theorem xyz_size : ("xyz" : PySem.Str).cps.size = 3 := by decide +kernel
abbrev sLaw : Stmt := top 41
abbrev nLaw : List PySem.Str := ["script", "draw", "k", "wide", "expr", "bits", "facts", "name"]
theorem scLaw : FnScope ["script", "draw", "k", "wide", "expr", "bits", "facts", "name"] ["script"] (defScope sLaw) := ⟨rfl, rfl, rfl, by decide +kernel, rfl, by decide +kernel, by decide +kernel⟩
def spLaw (K : PySem.W.Frag) : Sp := fun vs H Q _ => ∃ (a : Addr) (ns : List Int), vs = [.ref a] ∧ SqL K H a (ns.map V.int) ∧ ns.length ≤ 63 ∧ ∀ H', Q (.bl true) H'
section
variable {P : Program} {w : World} {K : PySem.W.Frag} {mg : PySem.Str → Option Value} {base : Heap} {f : Addr} {fd : FuncData}
theorem ok_law (F : FnP K "law" sLaw f fd) (dB : Def P w K mg base 1 "_law_begin" ["script"] (spBegin K)) (dN : Def P w K mg base 2 "_law_next" ["draw", "many"] spNext) (dF : Def P w K mg base 1 "_law_facts" ["bits"] (spLFacts K)) (dT : Def P w K mg base 3 "_law_bits" ["draw", "wide"] spLBits)
    (dE : Def P w K mg base 3 "_law_expr" ["draw", "wide"] spLExpr) (dD : Def P w K mg base 2 "_law_due" ["wide", "expr", "bits"] (spLDue K)) (dX : Def P w K mg base 4 "expr_facts" ["wide", "expr", "facts"] (spExprF K)) (dW : DefG P w K mg base 2 "_law_words_right" ["wide", "one", "other"] spWR)
    (m_range : mg "range" = none) (m_min : mg "min" = none) (m_len : mg "len" = none) (m_int : mg "int" = none) (m_dict : mg "dict" = none) (m_repr : mg "repr" = none) : FnG P w K mg base 5 f fd ["script"] (spLaw K) := by
  obtain ⟨fB, fdB, GB, bB, kB, gB⟩ := dB
  obtain ⟨fN, fdN, GN, bN, kN, gN⟩ := dN
  obtain ⟨fF, fdF, GF, bF, kF, gF⟩ := dF
  obtain ⟨fT, fdT, GT, bT, kT, gT⟩ := dT
  obtain ⟨fE, fdE, GE, bE, kE, gE⟩ := dE
  obtain ⟨fD, fdD, GD, bD, kD, gD⟩ := dD
  obtain ⟨fX, fdX, GX, bX, kX, gX⟩ := dX
  obtain ⟨fW, fdW, GW, bW, kW, gW⟩ := dW
  refine fnG_of (k := 4) F scLaw (fun vs H Q E h => ?_) (fun cdv A outer s H vs Q E gd hr h => ?_)
  · obtain ⟨a, ns, rfl, _⟩ := h
    rfl
  · obtain ⟨a, ns, rfl, hS, hl, q⟩ := h
    have hu := hu_of hr
    have hr1 := hr.mono (show 1 ≤ 4 by decide)
    have hr2 := hr.mono (show 2 ≤ 4 by decide)
    have hr3 := hr.mono (show 3 ≤ 4 by decide)
    refine ⟨_, PSs.nox (pss_cons (ps_set (i := 1) scLaw.nd rfl (Or.inr rfl) (pe_call GB hr1 (by rfl) gB kB bB .nil pass0 (pa_cons (pv 0) pa_nil)))
    (pss_cons (ps_for PassesOwn.never rfl (pi_range1 rfl m_range (pa_cons (pe_op op_addE (pe_callB (call_min2 rfl) (by rfl) m_min (by decide +kernel) (pa_cons pe_int (pa_cons (pe_callB call_len_seq (by rfl) m_len PySem.boot_len (pa_cons (pv 0) pa_nil)) pa_nil))) pe_int) pa_nil)) (pg_name (i := 2) scLaw.nd rfl (Or.inl rfl))
      (pss_cons (ps_set (i := 3) scLaw.nd rfl (Or.inr rfl) (pe_ix ix_list (pe_lst (pa_cons (pe_op op_addE pe_int (pe_call GN hr2 (by rfl) gN kN bN .nil pass0 (pa_cons (pv 1) (pa_cons pe_int pa_nil)))) (pa_cons pe_int pa_nil))) (pe_callTy cr_int1 (by rfl) m_int (by decide +kernel) (pa_cons (pe_cmpR op_eq (pe_call GN hr2 (by rfl) gN kN bN .nil pass0 (pa_cons (pv 1) (pa_cons pe_int pa_nil))) pe_int (nomark _)) pa_nil)) (fun _ _ => rfl)))
      (pss_cons (ps_set (i := 4) scLaw.nd rfl (Or.inl rfl) (pe_call GE hr3 (by rfl) gE kE bE .nil pass0 (pa_cons (pv 1) (pa_cons (pv 3) pa_nil))))
      (pss_cons (ps_set (i := 5) scLaw.nd rfl (Or.inr rfl) (pe_callTy (call_dictP rfl) (by rfl) m_dict (by decide +kernel) (pa_cons (pe_lc (own := [("name", 7)]) (g := gName 7) (tt := tYes) (te := tTup (tCons (tVar 7) (tCons (tCall spLBits [] E0 (tCons (tVar 1) (tCons (tVar 3) tNil))) tNil))) rfl scLaw.nd (pi_str pe_str) (blkOk_by (own := [("name", 7)]) (N := nLaw) (sc := defScope sLaw) (by decide +kernel)) (by exact (fun _ _ _ _ _ => (pg_name (i := 7) scLaw.nd rfl (Or.inl rfl)))) (by exact (fun _ _ _ _ _ => pts_nil)) (by exact (fun _ _ _ _ _ => (pe_tup (pa_cons (pv 7) (pa_cons (pe_call GT hr3 (by rfl) gT kT bT .nil pass0 (pa_cons (pv 1) (pa_cons (pv 3) pa_nil))) pa_nil)))))) pa_nil)))
      (pss_cons (ps_set (i := 6) scLaw.nd rfl (Or.inl rfl) (pe_callTy (call_dictP rfl) (by rfl) m_dict (by decide +kernel) (pa_cons (pe_lc (own := [("name", 7)]) (g := gName 7) (tt := tYes) (te := tTup (tCons (tVar 7) (tCons (tCall (spLFacts K) [] E0 (tCons (tDGet (tVar 5) (tVar 7)) tNil)) tNil))) rfl scLaw.nd (pi_str pe_str) (blkOk_by (own := [("name", 7)]) (N := nLaw) (sc := defScope sLaw) (by decide +kernel)) (by exact (fun _ _ _ _ _ => (pg_name (i := 7) scLaw.nd rfl (Or.inl rfl)))) (by exact (fun _ _ _ _ _ => pts_nil)) (by exact (fun _ _ _ _ _ => (pe_tup (pa_cons (pv 7) (pa_cons (pe_call GF hr1 (by rfl) gF kF bF .nil pass0 (pa_cons (pe_dget hu (pv 5) (pv 7) (fun _ _ => rfl)) pa_nil)) pa_nil)))))) pa_nil)))
      (pss_cons (ps_if (pt_cmpR op_ne (pe_callB (call_reprL gd hr) (by rfl) m_repr (by decide +kernel) (pa_cons (pe_call GX hr (by rfl) gX kX bX .nil pass0 (pa_cons (pv 3) (pa_cons (pv 4) (pa_cons (pv 6) pa_nil)))) pa_nil)) (pe_callB (call_reprL gd hr) (by rfl) m_repr (by decide +kernel) (pa_cons (pe_call GF hr1 (by rfl) gF kF bF .nil pass0 (pa_cons (pe_call GD hr2 (by rfl) gD kD bD .nil pass0 (pa_cons (pv 3) (pa_cons (pv 4) (pa_cons (pv 5) pa_nil)))) pa_nil)) pa_nil)) (nomark _))
        (pss_one (ps_ret pe_bl))
        pss_nil)
      (pss_one (ps_if (pt_not (pt_val (pe_callG GW gd hr2 (by rfl) gW kW bW pass0 (pa_cons (pv 3) (pa_cons (pe_dget hu (pv 5) pe_str (fun _ _ => rfl)) (pa_cons (pe_dget hu (pv 5) pe_str (fun _ _ => rfl)) pa_nil))))))
        (pss_one (ps_ret pe_bl))
        pss_nil))))))))
    (pss_one (ps_ret pe_bl)))), ?_⟩
    refine ⟨.ref a, rfl, a, ns, rfl, hS, hl, fun d c H1 nd k1 D1 => ?_⟩
    have hS1 : SqL K H1 a (ns.map V.int) := k1.sql hS (fun z => z)
    obtain ⟨m, hm, hm2⟩ : ∃ m : Nat, (if (((ns.map V.int).length : Nat) : Int) < 60 then (((ns.map V.int).length : Nat) : Int) else 60) + 3 = (m : Int) ∧ m ≤ 63 := by
      have hL : (ns.map V.int).length = ns.length := List.length_map ..
      rw [hL]
      by_cases h : ((ns.length : Nat) : Int) < 60
      · rw [if_pos h]; exact ⟨ns.length + 3, by omega, by omega⟩
      · rw [if_neg h]; exact ⟨63, by omega, by omega⟩
    refine ⟨.ref a, rfl, a, ns.map V.int, rfl, .inl hS1, 60, ((ns.map V.int).length : Int), rfl, _, 3, (m : Int), rfl, rfl, hm, (m : Int), rfl, by omega, by omega, ?_⟩
    refine for_range (lo := 0) (n := m) (fun i σ H' => Dr H' d c (ns ++ [0]) (100 * i) ∧ ∃ y2 y3 y4 y5 y6, σ = [some (.ref a), some (.ref d), y2, y3, y4, y5, y6, none]) ⟨D1, none, none, none, none, none, rfl⟩ (fun i σ H2 hi h => ?_) (fun σ H2 h => ?_)
    · obtain ⟨D2, y2, y3, y4, y5, y6, rfl⟩ := h
      -- how wide
      refine ⟨.ref d, rfl, d, c, ns ++ [0], 100 * i, 12, rfl, D2, by omega, by omega, by omega, fun r H3 r0 r1 k3 D3 => ?_⟩
      obtain ⟨r, rfl⟩ := Int.eq_ofNat_of_zero_le r0
      refine ⟨1, (r : Int), ((1 + r : Nat) : Int), rfl, rfl, by omega, (show 2 ≤ sizeLine by decide), fun M hM => ?_⟩
      have D4 : Dr (upd H3 M (.lst [.int ((1 + r : Nat) : Int), .int ((12 : Nat) : Int)])) d c (ns ++ [0]) (100 * i + 1) := D3.new hM
      have eM : upd H3 M (.lst [.int ((1 + r : Nat) : Int), .int ((12 : Nat) : Int)]) M = some (.lst [.int ((1 + r : Nat) : Int), .int ((12 : Nat) : Int)]) := upd_same
      have hMd := D3.apart hM
      refine ⟨.ref d, rfl, d, c, ns ++ [0], 100 * i + 1, 3, rfl, D4, by omega, by omega, by omega, fun r' H4 q0 q1 k4 D5 => ?_⟩
      obtain ⟨v, hv1, hv2, hat⟩ : ∃ v : Nat, 1 ≤ v ∧ v ≤ 12 ∧ atI [V.int ((1 + r : Nat) : Int), .int ((12 : Nat) : Int)] (if decide (V.int r' = V.int 0) = true then (1 : Int) else 0) = some (.int (v : Int)) := by
        cases decide (V.int r' = V.int 0) with
        | true => exact ⟨12, by decide, by decide, rfl⟩
        | false => exact ⟨1 + r, by omega, by omega, rfl⟩
      refine ⟨rfl, .inr ⟨_, rfl, M, _, _, .int (v : Int), rfl, rfl, SqL.of (k4.lst eM hMd), hat, ?_⟩⟩
      clear k3 k4 D3 D4 eM hM hMd hat
      -- the expression
      refine ⟨.ref d, rfl, .int (v : Int), rfl, d, c, ns ++ [0], 100 * i + 2, v, rfl, D5, by omega, hv1, hv2, fun e p H5 hok hnm hp5 k5 D6 ep => ?_⟩
      -- what bits may be
      refine ⟨"xyz", rfl, fun L hL => ?_⟩
      have hLd := D6.apart hL
      have hLc := D6.apartC hL
      refine lc_it (walk_str (z := "xyz")) (fun i' H' => Kept (At d) H5 H' ∧ Dr H' d c (ns ++ [0]) (100 * i + 10 + 20 * i') ∧ ∃ rs : List (Addr × Addr × F2), rs.length = i' ∧ H' L = some (.lst ((rs.map fun r => r.1).map V.ref)) ∧ ∀ (j : Nat) (r : Addr × Addr × F2) (x : PySem.Str), rs[j]? = some r → xyz[j]? = some x → H' r.1 = some (.tup [.str x, .ref r.2.1]) ∧ r.2.1 ≠ L ∧ BL H' r.2.1 v r.2.2 ∧ Fc v r.2.2)
        ⟨Kept.refl.new hL, (D6.keep hLd hLc).more (by omega), [], rfl, upd_same, fun j r x z => by cases z⟩ (fun _ _ _ _ => trivial) (fun i' x' H' H2 hi' h w => ?_) (fun H6 h => ?_)
      · obtain ⟨k6, D7, rs, e1, e2, e3⟩ := h
        obtain ⟨rfl, cc, hc, rfl⟩ := w
        rw [xyz_size] at hi'
        obtain ⟨c', x, hc1, hc2, hc3⟩ := xyz_sign i' hi'
        rw [hc1] at hc
        cases hc
        rw [hc2]
        refine ⟨rfl, .str x, rfl, .ref d, rfl, .int (v : Int), rfl, d, c, ns ++ [0], 100 * i + 10 + 20 * i', v, rfl, D7, by omega, hv1, by omega, fun B ff H8 fc hB k8 D8 bl => ⟨(show 2 ≤ sizeLine by decide), fun t ht => ?_⟩⟩
        have eL8 := k8.lst e2 hLd
        have kt : Kept None H8 (upd H8 t (.tup [.str x, .ref B])) := Kept.refl.new ht
        have et9 : upd H8 t (.tup [.str x, .ref B]) t = some (.tup [.str x, .ref B]) := upd_same
        have D9 : Dr (upd H8 t (.tup [.str x, .ref B])) d c (ns ++ [0]) (100 * i + 10 + 20 * i' + 20) := D8.new ht
        have k9 : Kept (At d) H5 (upd H8 t (.tup [.str x, .ref B])) := (k6.trans k8).nu D8 ht
        have bl9 := bl.kept kt fun _ z => z
        have eL9 := kt.lst eL8 fun z => z
        have BL' : B ≠ L := (ne_of_none e2 hB).symm
        have old : ∀ (j : Nat) (r : Addr × Addr × F2) (x0 : PySem.Str), rs[j]? = some r → xyz[j]? = some x0 → upd H8 t (.tup [.str x, .ref B]) r.1 = some (.tup [.str x0, .ref r.2.1]) ∧ r.2.1 ≠ L ∧ BL (upd H8 t (.tup [.str x, .ref B])) r.2.1 v r.2.2 ∧ Fc v r.2.2 := fun j r' x' q1 q2 => by
          obtain ⟨a1, a2, a3, a4⟩ := e3 j r' x' q1 q2
          exact ⟨kt.tup (k8.tup a1 (D7.ne_tup a1)) fun z => z, a2, (a3.kept k8 fun e z => D7.ne_lst e z).kept kt fun _ z => z, a4⟩
        generalize upd H8 t (.tup [.str x, .ref B]) = H9 at et9 D9 k9 bl9 eL9 old ⊢
        clear kt eL8 bl k8 D8 hB e2 e3 k6 D7
        refine ⟨_, eL9, by rw [List.length_map, List.length_map, sizeLine_eq]; omega, k9.new hL, (D9.keep hLd hLc).more (by omega), rs ++ [(t, B, ff)], by rw [List.length_append, e1]; rfl, by rw [upd_same, List.map_append, List.map_append]; rfl, fun j r' x' q1 q2 => ?_⟩
        have tupL : ∀ {b : Addr} {xs : List V} {o : HO}, H9 b = some (.tup xs) → upd H9 L o b = some (.tup xs) := fun {b xs o} h => by
          rw [upd_ne (ne_of h eL9 (by intro z; cases z))]; exact h
        by_cases hj : j < rs.length
        · rw [List.getElem?_append_left hj] at q1
          obtain ⟨a1, a2, a3, a4⟩ := old j r' x' q1 q2
          exact ⟨tupL a1, a2, a3.off eL9 a2, a4⟩
        · have hj2 : j = rs.length := by
            have := (List.getElem?_eq_some_iff.mp q1).1
            rw [List.length_append] at this
            simp only [List.length_cons, List.length_nil] at this
            omega
          subst hj2
          rw [List.getElem?_append_right (Nat.le_refl _), Nat.sub_self] at q1
          cases q1
          rw [e1, hc3] at q2
          cases q2
          exact ⟨tupL et9, BL', bl9.off eL9 BL', fc⟩
      · obtain ⟨k6, D7, rs, e1, e2, e3⟩ := h
        rw [xyz_size] at e1 D7
        obtain ⟨⟨t0, p0, f0⟩, ⟨t1, p1, f1⟩, ⟨t2, p2, f2⟩, rfl⟩ : ∃ r0 r1 r2, rs = [r0, r1, r2] := by
          match rs, e1 with
          | [r0, r1, r2], _ => exact ⟨_, _, _, rfl⟩
        obtain ⟨a0, _, b0, c0⟩ := e3 0 _ "x" rfl rfl
        obtain ⟨a1, _, b1, c1⟩ := e3 1 _ "y" rfl rfl
        obtain ⟨a2, _, b2, c2⟩ := e3 2 _ "z" rfl rfl
        have ep6 := k6.tup ep (D6.ne_tup ep)
        refine ⟨L, [t0, t1, t2], kv3 (.ref p0) (.ref p1) (.ref p2), rfl, SqL.of e2, .cons (SqT.of a0) (.cons (SqT.of a1) (.cons (SqT.of a2) .nil)), fun b hb => ?_⟩
        rw [merge3]
        have kb : Kept None H6 (upd H6 b (.dK (kv3 (.ref p0) (.ref p1) (.ref p2)))) := Kept.refl.new hb
        have eb : upd H6 b (.dK (kv3 (.ref p0) (.ref p1) (.ref p2))) b = some (.dK (kv3 (.ref p0) (.ref p1) (.ref p2))) := upd_same
        have DB : Dr (upd H6 b (.dK (kv3 (.ref p0) (.ref p1) (.ref p2)))) d c (ns ++ [0]) (100 * i + 70) := (D7.new hb).more (by omega)
        have ep7 := kb.tup ep6 fun z => z
        have BDb := bd3 eb (b0.kept kb fun _ z => z) (b1.kept kb fun _ z => z) (b2.kept kb fun _ z => z)
        generalize upd H6 b (.dK (kv3 (.ref p0) (.ref p1) (.ref p2))) = H7 at kb eb DB ep7 BDb ⊢
        have fcg : ∀ x ∈ xyz, Fc v (g3 f0 f1 f2 x) := fun x _ => fc3 c0 c1 c2 x
        clear a0 a1 a2 b0 b1 b2 e3 e2 e1 k6 D7 ep6 hb hL D6 ep eb kb hLd hLc
        -- their facts
        refine ⟨"xyz", rfl, fun L hL => ?_⟩
        refine lc_it (walk_str (z := "xyz")) (fun i' H' => Kept None H7 H' ∧ ∃ rs : List (Addr × Addr), rs.length = i' ∧ H' L = some (.lst ((rs.map fun r => r.1).map V.ref)) ∧ ∀ (j : Nat) (r : Addr × Addr) (x : PySem.Str), rs[j]? = some r → xyz[j]? = some x → H' r.1 = some (.tup [.str x, .ref r.2]) ∧ SqT K H' r.2 (twoF (g3 f0 f1 f2 x)))
          ⟨Kept.refl.new hL, [], rfl, upd_same, fun j r x z => by cases z⟩ (fun _ _ _ _ => trivial) (fun i' x' H' H2 hi' h w => ?_) (fun H8 h => ?_)
        · obtain ⟨k6, rs, e1, e2, e3⟩ := h
          obtain ⟨rfl, cc, hc, rfl⟩ := w
          rw [xyz_size] at hi'
          obtain ⟨c', x, hc1, hc2, hc3⟩ := xyz_sign i' hi'
          rw [hc1] at hc
          cases hc
          rw [hc2]
          have hx : x ∈ xyz := List.mem_of_getElem? hc3
          obtain ⟨B, dg, bl⟩ := (BDb.kept k6).get hx
          refine ⟨rfl, .str x, rfl, .ref b, rfl, .str x, rfl, b, .ref B, rfl, dg, B, v, g3 f0 f1 f2 x, rfl, by omega, fcg x hx, bl, fun tf H8 k8 s8 => ⟨(show 2 ≤ sizeLine by decide), fun t ht => ?_⟩⟩
          have kt : Kept None H8 (upd H8 t (.tup [.str x, .ref tf])) := Kept.refl.new ht
          have et9 : upd H8 t (.tup [.str x, .ref tf]) t = some (.tup [.str x, .ref tf]) := upd_same
          have k9 := k8.trans kt
          have eL9 := k9.lst e2 fun z => z
          have s9 := kt.sqt s8 fun z => z
          generalize upd H8 t (.tup [.str x, .ref tf]) = H9 at et9 k9 eL9 s9 ⊢
          refine ⟨_, eL9, by rw [List.length_map, List.length_map, sizeLine_eq]; omega, (k6.trans k9).new hL, rs ++ [(t, tf)], by rw [List.length_append, e1]; rfl, by rw [upd_same, List.map_append, List.map_append]; rfl, fun j r' x' q1 q2 => ?_⟩
          have tupL : ∀ {b : Addr} {xs : List V} {o : HO}, H9 b = some (.tup xs) → upd H9 L o b = some (.tup xs) := fun {b xs o} h => by
            rw [upd_ne (ne_of h eL9 (by intro z; cases z))]; exact h
          by_cases hj : j < rs.length
          · rw [List.getElem?_append_left hj] at q1
            obtain ⟨a1, a2⟩ := e3 j r' x' q1 q2
            exact ⟨tupL (k9.tup a1 fun z => z), sqt_upd (k9.sqt a2 fun z => z) eL9⟩
          · have hj2 : j = rs.length := by
              have := (List.getElem?_eq_some_iff.mp q1).1
              rw [List.length_append] at this
              simp only [List.length_cons, List.length_nil] at this
              omega
            subst hj2
            rw [List.getElem?_append_right (Nat.le_refl _), Nat.sub_self] at q1
            cases q1
            rw [e1, hc3] at q2
            cases q2
            exact ⟨tupL et9, sqt_upd s9 eL9⟩
        · obtain ⟨k6, rs, e1, e2, e3⟩ := h
          rw [xyz_size] at e1
          obtain ⟨⟨t0, q0⟩, ⟨t1, q1⟩, ⟨t2, q2⟩, rfl⟩ : ∃ r0 r1 r2, rs = [r0, r1, r2] := by
            match rs, e1 with
            | [r0, r1, r2], _ => exact ⟨_, _, _, rfl⟩
          obtain ⟨a0, b0⟩ := e3 0 _ "x" rfl rfl
          obtain ⟨a1, b1⟩ := e3 1 _ "y" rfl rfl
          obtain ⟨a2, b2⟩ := e3 2 _ "z" rfl rfl
          rw [g3_x] at b0
          rw [g3_y] at b1
          rw [g3_z] at b2
          refine ⟨L, [t0, t1, t2], kv3 (.ref q0) (.ref q1) (.ref q2), rfl, SqL.of e2, .cons (SqT.of a0) (.cons (SqT.of a1) (.cons (SqT.of a2) .nil)), fun b' hb' => ?_⟩
          rw [merge3]
          have kb : Kept None H8 (upd H8 b' (.dK (kv3 (.ref q0) (.ref q1) (.ref q2)))) := Kept.refl.new hb'
          have eb : upd H8 b' (.dK (kv3 (.ref q0) (.ref q1) (.ref q2))) b' = some (.dK (kv3 (.ref q0) (.ref q1) (.ref q2))) := upd_same
          have s0 := kb.sqt b0 fun z => z
          have s1 := kb.sqt b1 fun z => z
          have s2 := kb.sqt b2 fun z => z
          have k9 := k6.trans kb
          generalize upd H8 b' (.dK (kv3 (.ref q0) (.ref q1) (.ref q2))) = H9 at kb eb s0 s1 s2 k9 ⊢
          have D9 := DB.stay k9
          have ep9 := k9.tup ep7 fun z => z
          have BD9 := BDb.kept k9
          have fde := fd3 eb s0 s1 s2 hnm
          have fce := fc_ex hv1 hok fun x hx => fcg x (hnm x hx)
          obtain ⟨z1, z2⟩ := small5 hv2 fce
          obtain ⟨sh, len⟩ := dF_ok z1 z2
          clear a0 a1 a2 b0 b1 b2 e3 e2 e1 k6 kb hb' hL DB ep7 BDb k9
          -- what is told is what is due
          refine ⟨.int (v : Int), rfl, .ref p, rfl, .ref b', rfl, v, p, b', e, g3 f0 f1 f2, rfl, hv2, SqT.of ep9, fde, small_of hok, fun x hx => fcg x (hnm x hx), fun ta Ha ka sa => ?_⟩
          refine ⟨ta, dF _ _, rfl, dpTwo sa, sh, rfl, by show 1 ≤ 100; decide, len, ?_⟩
          have epa := ka.tup ep9 fun z => z
          refine ⟨.int (v : Int), rfl, .ref p, rfl, .ref b, rfl, v, p, b, e, xyz, g3 f0 f1 f2, rfl, hv1, hv2, SqT.of epa, hok, hnm, fcg, BD9.kept ka, fun pd Hd kd bld => ?_⟩
          refine ⟨pd, v, _, rfl, by omega, fce, bld, fun te He ke se => ?_⟩
          refine ⟨te, dF _ _, rfl, dpTwo se, sh, rfl, by show 1 ≤ 100; decide, len, rfl, ?_⟩
          rw [decide_eq_true rfl]
          refine ⟨_, rfl, iteF ?_⟩
          -- the words
          have k10 := (ka.trans kd).trans ke
          have BDe := BD9.kept k10
          obtain ⟨B0, dg0, bl0⟩ := BDe.get (x := "x") (by simp [xyz])
          obtain ⟨B1, dg1, bl1⟩ := BDe.get (x := "y") (by simp [xyz])
          have fx := fcg "x" (by simp [xyz])
          have fy := fcg "y" (by simp [xyz])
          refine ⟨.int (v : Int), rfl, .ref b, rfl, b, .ref B0, rfl, dg0, .ref b, rfl, b, .ref B1, rfl, dg1, B0, B1, v, _, _, rfl, hv1, hv2, fx, fy, bl0, bl1, fun Hf kf => ⟨_, rfl, iteF ?_⟩⟩
          exact ⟨(D9.stay (k10.trans kf)).more (by omega), _, _, _, _, _, rfl⟩
    · obtain ⟨_, y2, y3, y4, y5, y6, rfl⟩ := h
      exact q _
end
end K12

set_option Elab.async false
set_option linter.all false
set_option maxRecDepth 100000
set_option maxHeartbeats 0
namespace K12
open PySem PySem.W PySem.Spec PyProof.Rows L2
/-! ### the head: facts by names, the table, the run -/
def mkD (x : PySem.Str) (i : Nat) : He.DefD := ⟨(x, none), x, x, defArgs (top i), defBody (top i), defScope (top i), [], []⟩
def fn : List He.DefD := [mkD "is_whole" 4, mkD "names_in" 6, mkD "is_facts" 8, mkD "least_word" 9, mkD "greatest_word" 10, mkD "common_facts" 11, mkD "expr_facts" 12, mkD "made_facts" 13, mkD "_number" 14, mkD "_copy" 15, mkD "_sum" 16, mkD "_difference" 17, mkD "_carried" 18, mkD "_both" 19, mkD "_either" 20, mkD "_unlike" 21, mkD "_same" 22, mkD "_below" 23, mkD "_truth" 24, mkD "_up" 25, mkD "_down" 26, mkD "_pick" 27, mkD "_law_begin" 30, mkD "_law_mixed" 31, mkD "_law_next" 32, mkD "_law_bits" 33, mkD "_law_facts" 34, mkD "_law_sum" 35, mkD "_law_orders" 36, mkD "_law_by_bits" 37, mkD "_law_due" 38, mkD "_law_expr" 39, mkD "_law_words_right" 40, mkD "law" 41]
def fa : List He.Fa := [.glo "is_whole", .glo "names_in", .glo "is_facts", .glo "least_word", .glo "greatest_word", .glo "common_facts", .glo "expr_facts", .glo "made_facts", .glo "_number", .glo "_copy", .glo "_sum", .glo "_difference", .glo "_carried", .glo "_both", .glo "_either", .glo "_unlike", .glo "_same", .glo "_below", .glo "_truth", .glo "_up", .glo "_down", .glo "_pick", .glo "_law_begin", .glo "_law_mixed", .glo "_law_next", .glo "_law_bits", .glo "_law_facts", .glo "_law_sum", .glo "_law_orders", .glo "_law_by_bits", .glo "_law_due", .glo "_law_expr", .glo "_law_words_right", .glo "law", .free "type", .free "int", .free "str", .free "tuple", .free "len", .free "range", .free "repr", .free "min", .free "max", .free "dict", .free "sum", .free "enumerate", .free "zip", .free "sorted", .free "set", .glo "FACTS_BY_EXPR"]
def tkv : List (PySem.Str × He.Dv) := [("number", .glo "_number"), ("copy", .glo "_copy"), ("add", .glo "_sum"), ("less", .glo "_difference"), ("and", .glo "_both"), ("or", .glo "_either"), ("unlike", .glo "_unlike"), ("same", .glo "_same"), ("below", .glo "_below"), ("up", .glo "_up"), ("down", .glo "_down"), ("pick", .glo "_pick")]
def tb : List He.Tab := [(fun K => He.ga K "FACTS_BY_EXPR", tkv.map (·.1))]
def ex (K : PySem.W.Frag) : Bool := He.valsB K (He.ga K "FACTS_BY_EXPR") tkv
abbrev R : PySem.W.OpenRow := PySem.W.OpenLaw.row PySem.Challenge.rw_bitneed_k12_facts_bit_by_bit
abbrev hkS : PySem.W.Hook := He.hookX 4 fa fn tb [] ex
def ob (s : PySem.W.SharedT) : He.AlX := He.obsX 4 fa fn tb [] ex (HandSHeadRun.getT s)
theorem ob_eq (s : PySem.W.SharedT) : ob s = hkS.obs s.abs := He.obsX_eq (HandSHeadRun.getT_eq s)
def loose : List PySem.Str := [("BitError" : PySem.Str), ("BadFacts" : PySem.Str), ("FACTS_BY_EXPR" : PySem.Str), ("is_whole" : PySem.Str), ("names_in" : PySem.Str), ("is_facts" : PySem.Str), ("least_word" : PySem.Str), ("greatest_word" : PySem.Str), ("common_facts" : PySem.Str), ("expr_facts" : PySem.Str), ("made_facts" : PySem.Str), ("_number" : PySem.Str), ("_copy" : PySem.Str), ("_sum" : PySem.Str), ("_difference" : PySem.Str), ("_carried" : PySem.Str), ("_both" : PySem.Str), ("_either" : PySem.Str), ("_unlike" : PySem.Str), ("_same" : PySem.Str), ("_below" : PySem.Str), ("_truth" : PySem.Str), ("_up" : PySem.Str), ("_down" : PySem.Str), ("_pick" : PySem.Str), ("_law_begin" : PySem.Str), ("_law_mixed" : PySem.Str), ("_law_next" : PySem.Str), ("_law_bits" : PySem.Str), ("_law_facts" : PySem.Str), ("_law_sum" : PySem.Str), ("_law_orders" : PySem.Str), ("_law_by_bits" : PySem.Str), ("_law_due" : PySem.Str), ("_law_expr" : PySem.Str), ("_law_words_right" : PySem.Str)]
theorem run (w : World) : HandSHeadRun.RunEq R (PySem.W.view R.prog [41]) hkS ob 6000 loose w := by
  refine byRow2 "special-get-raises" (P := fun w => HandSHeadRun.RunEq R (PySem.W.view R.prog [41]) hkS ob 6000 loose w) (fun w => ?_) (fun w => ?_) w
  · intro os
    kernel_rfl
  · intro os
    kernel_rfl
theorem facts {P : Program} {w : World} {K : PySem.W.Frag} {h : Heap} {mg : PySem.Str → Option Value} {f : Addr} (X : K.In h) (G : h.Ns mainGlobals mg) (hfa : mg ("law" : PySem.Str) = some (.ref f)) (cx : He.SaysX fa fn tb [] ex w h K) :
    ∃ fd : FuncData, (∀ (s : Shared) (v : Value), BindsTo s fd ⟨[v], []⟩ [("script", v)]) ∧ ∀ base : Heap, K.In base → base.Ns mainGlobals mg → FnG P w K mg base 5 f fd ["script"] (spLaw K) := by
  have c := cx.t.d
  have m_tab := He.glo_ok X G (c.fact 49 (f := .glo "FACTS_BY_EXPR") rfl)
  have tv : ∀ {q : PySem.Str × He.Dv}, q ∈ tkv → KDct K w (He.ga K "FACTS_BY_EXPR") q.1 (q.2.v K) := fun {q} hq => by
    obtain ⟨es, n, lk, kl, sm⟩ := cx.t.tab 0 (t := (fun K => He.ga K "FACTS_BY_EXPR", tkv.map (·.1))) rfl
    obtain ⟨u, e, r⟩ := He.valsB_ok cx.more hq
    exact ⟨es, n, u, lk, kl, e, r⟩
  obtain ⟨fdIsWhole, FIsWhole⟩ := c.def_ 0 (d := mkD "is_whole" 4) rfl
  obtain ⟨fdNamesIn, FNamesIn⟩ := c.def_ 1 (d := mkD "names_in" 6) rfl
  obtain ⟨fdIsFacts, FIsFacts⟩ := c.def_ 2 (d := mkD "is_facts" 8) rfl
  obtain ⟨fdLeastWord, FLeastWord⟩ := c.def_ 3 (d := mkD "least_word" 9) rfl
  obtain ⟨fdGreatestWord, FGreatestWord⟩ := c.def_ 4 (d := mkD "greatest_word" 10) rfl
  obtain ⟨fdCommonFacts, FCommonFacts⟩ := c.def_ 5 (d := mkD "common_facts" 11) rfl
  obtain ⟨fdExprFacts, FExprFacts⟩ := c.def_ 6 (d := mkD "expr_facts" 12) rfl
  obtain ⟨fdMadeFacts, FMadeFacts⟩ := c.def_ 7 (d := mkD "made_facts" 13) rfl
  obtain ⟨fdNumber, FNumber⟩ := c.def_ 8 (d := mkD "_number" 14) rfl
  obtain ⟨fdCopy, FCopy⟩ := c.def_ 9 (d := mkD "_copy" 15) rfl
  obtain ⟨fdSum, FSum⟩ := c.def_ 10 (d := mkD "_sum" 16) rfl
  obtain ⟨fdDifference, FDifference⟩ := c.def_ 11 (d := mkD "_difference" 17) rfl
  obtain ⟨fdCarried, FCarried⟩ := c.def_ 12 (d := mkD "_carried" 18) rfl
  obtain ⟨fdBoth, FBoth⟩ := c.def_ 13 (d := mkD "_both" 19) rfl
  obtain ⟨fdEither, FEither⟩ := c.def_ 14 (d := mkD "_either" 20) rfl
  obtain ⟨fdUnlike, FUnlike⟩ := c.def_ 15 (d := mkD "_unlike" 21) rfl
  obtain ⟨fdSame, FSame⟩ := c.def_ 16 (d := mkD "_same" 22) rfl
  obtain ⟨fdBelow, FBelow⟩ := c.def_ 17 (d := mkD "_below" 23) rfl
  obtain ⟨fdTruth, FTruth⟩ := c.def_ 18 (d := mkD "_truth" 24) rfl
  obtain ⟨fdUp, FUp⟩ := c.def_ 19 (d := mkD "_up" 25) rfl
  obtain ⟨fdDown, FDown⟩ := c.def_ 20 (d := mkD "_down" 26) rfl
  obtain ⟨fdPick, FPick⟩ := c.def_ 21 (d := mkD "_pick" 27) rfl
  obtain ⟨fdLBegin, FLBegin⟩ := c.def_ 22 (d := mkD "_law_begin" 30) rfl
  obtain ⟨fdLMixed, FLMixed⟩ := c.def_ 23 (d := mkD "_law_mixed" 31) rfl
  obtain ⟨fdLNext, FLNext⟩ := c.def_ 24 (d := mkD "_law_next" 32) rfl
  obtain ⟨fdLBits, FLBits⟩ := c.def_ 25 (d := mkD "_law_bits" 33) rfl
  obtain ⟨fdLFacts, FLFacts⟩ := c.def_ 26 (d := mkD "_law_facts" 34) rfl
  obtain ⟨fdLSum, FLSum⟩ := c.def_ 27 (d := mkD "_law_sum" 35) rfl
  obtain ⟨fdLOrders, FLOrders⟩ := c.def_ 28 (d := mkD "_law_orders" 36) rfl
  obtain ⟨fdLByBits, FLByBits⟩ := c.def_ 29 (d := mkD "_law_by_bits" 37) rfl
  obtain ⟨fdLDue, FLDue⟩ := c.def_ 30 (d := mkD "_law_due" 38) rfl
  obtain ⟨fdLExpr, FLExpr⟩ := c.def_ 31 (d := mkD "_law_expr" 39) rfl
  obtain ⟨fdLWordsRight, FLWordsRight⟩ := c.def_ 32 (d := mkD "_law_words_right" 40) rfl
  obtain ⟨fdLaw, FLaw⟩ := c.def_ 33 (d := mkD "law" 41) rfl
  have e := hfa.symm.trans (He.glo_ok X G (c.fact 33 (f := .glo "law") rfl))
  cases e
  have gIsWhole := He.glo_ok X G (c.fact 0 (f := .glo "is_whole") rfl)
  have gNamesIn := He.glo_ok X G (c.fact 1 (f := .glo "names_in") rfl)
  have gIsFacts := He.glo_ok X G (c.fact 2 (f := .glo "is_facts") rfl)
  have gLeastWord := He.glo_ok X G (c.fact 3 (f := .glo "least_word") rfl)
  have gGreatestWord := He.glo_ok X G (c.fact 4 (f := .glo "greatest_word") rfl)
  have gCommonFacts := He.glo_ok X G (c.fact 5 (f := .glo "common_facts") rfl)
  have gExprFacts := He.glo_ok X G (c.fact 6 (f := .glo "expr_facts") rfl)
  have gMadeFacts := He.glo_ok X G (c.fact 7 (f := .glo "made_facts") rfl)
  have gNumber := He.glo_ok X G (c.fact 8 (f := .glo "_number") rfl)
  have gCopy := He.glo_ok X G (c.fact 9 (f := .glo "_copy") rfl)
  have gSum := He.glo_ok X G (c.fact 10 (f := .glo "_sum") rfl)
  have gDifference := He.glo_ok X G (c.fact 11 (f := .glo "_difference") rfl)
  have gCarried := He.glo_ok X G (c.fact 12 (f := .glo "_carried") rfl)
  have gBoth := He.glo_ok X G (c.fact 13 (f := .glo "_both") rfl)
  have gEither := He.glo_ok X G (c.fact 14 (f := .glo "_either") rfl)
  have gUnlike := He.glo_ok X G (c.fact 15 (f := .glo "_unlike") rfl)
  have gSame := He.glo_ok X G (c.fact 16 (f := .glo "_same") rfl)
  have gBelow := He.glo_ok X G (c.fact 17 (f := .glo "_below") rfl)
  have gTruth := He.glo_ok X G (c.fact 18 (f := .glo "_truth") rfl)
  have gUp := He.glo_ok X G (c.fact 19 (f := .glo "_up") rfl)
  have gDown := He.glo_ok X G (c.fact 20 (f := .glo "_down") rfl)
  have gPick := He.glo_ok X G (c.fact 21 (f := .glo "_pick") rfl)
  have gLBegin := He.glo_ok X G (c.fact 22 (f := .glo "_law_begin") rfl)
  have gLMixed := He.glo_ok X G (c.fact 23 (f := .glo "_law_mixed") rfl)
  have gLNext := He.glo_ok X G (c.fact 24 (f := .glo "_law_next") rfl)
  have gLBits := He.glo_ok X G (c.fact 25 (f := .glo "_law_bits") rfl)
  have gLFacts := He.glo_ok X G (c.fact 26 (f := .glo "_law_facts") rfl)
  have gLSum := He.glo_ok X G (c.fact 27 (f := .glo "_law_sum") rfl)
  have gLOrders := He.glo_ok X G (c.fact 28 (f := .glo "_law_orders") rfl)
  have gLByBits := He.glo_ok X G (c.fact 29 (f := .glo "_law_by_bits") rfl)
  have gLDue := He.glo_ok X G (c.fact 30 (f := .glo "_law_due") rfl)
  have gLExpr := He.glo_ok X G (c.fact 31 (f := .glo "_law_expr") rfl)
  have gLWordsRight := He.glo_ok X G (c.fact 32 (f := .glo "_law_words_right") rfl)
  have m_type := He.free_ok X G (c.fact 34 (f := .free "type") rfl)
  have m_int := He.free_ok X G (c.fact 35 (f := .free "int") rfl)
  have m_str := He.free_ok X G (c.fact 36 (f := .free "str") rfl)
  have m_tuple := He.free_ok X G (c.fact 37 (f := .free "tuple") rfl)
  have m_len := He.free_ok X G (c.fact 38 (f := .free "len") rfl)
  have m_range := He.free_ok X G (c.fact 39 (f := .free "range") rfl)
  have m_repr := He.free_ok X G (c.fact 40 (f := .free "repr") rfl)
  have m_min := He.free_ok X G (c.fact 41 (f := .free "min") rfl)
  have m_max := He.free_ok X G (c.fact 42 (f := .free "max") rfl)
  have m_dict := He.free_ok X G (c.fact 43 (f := .free "dict") rfl)
  have m_sum := He.free_ok X G (c.fact 44 (f := .free "sum") rfl)
  have m_enumerate := He.free_ok X G (c.fact 45 (f := .free "enumerate") rfl)
  have m_zip := He.free_ok X G (c.fact 46 (f := .free "zip") rfl)
  have m_sorted := He.free_ok X G (c.fact 47 (f := .free "sorted") rfl)
  have m_set := He.free_ok X G (c.fact 48 (f := .free "set") rfl)
  have b := FunD.bindsA (ps := ["script"]) FLaw fun _ _ _ _ _ _ us hl => match us, hl with | [_], _ => rfl
  have bIsWhole : Binds K fdIsWhole ["thing", "least", "most"] [] := FunD.bindsN FIsWhole fun _ _ _ _ _ _ us hl => match us, hl with | [_, _, _], _ => rfl
  have bNamesIn : Binds K fdNamesIn ["expr"] [] := FunD.bindsN FNamesIn fun _ _ _ _ _ _ us hl => match us, hl with | [_], _ => rfl
  have bIsFacts : Binds K fdIsFacts ["wide", "thing"] [] := FunD.bindsN FIsFacts fun _ _ _ _ _ _ us hl => match us, hl with | [_, _], _ => rfl
  have bLeastWord : Binds K fdLeastWord ["facts"] [] := FunD.bindsN FLeastWord fun _ _ _ _ _ _ us hl => match us, hl with | [_], _ => rfl
  have bGreatestWord : Binds K fdGreatestWord ["wide", "facts"] [] := FunD.bindsN FGreatestWord fun _ _ _ _ _ _ us hl => match us, hl with | [_, _], _ => rfl
  have bCommonFacts : Binds K fdCommonFacts ["one", "other"] [] := FunD.bindsN FCommonFacts fun _ _ _ _ _ _ us hl => match us, hl with | [_, _], _ => rfl
  have bExprFacts : Binds K fdExprFacts ["wide", "expr", "facts"] [] := FunD.bindsN FExprFacts fun _ _ _ _ _ _ us hl => match us, hl with | [_, _, _], _ => rfl
  have bMadeFacts : Binds K fdMadeFacts ["wide", "expr", "facts"] [] := FunD.bindsN FMadeFacts fun _ _ _ _ _ _ us hl => match us, hl with | [_, _, _], _ => rfl
  have bNumber : Binds K fdNumber ["most", "n"] [] := FunD.bindsN FNumber fun _ _ _ _ _ _ us hl => match us, hl with | [_, _], _ => rfl
  have bCopy : Binds K fdCopy ["most", "y"] [] := FunD.bindsN FCopy fun _ _ _ _ _ _ us hl => match us, hl with | [_, _], _ => rfl
  have bSum : Binds K fdSum ["most", "y", "z"] [] := FunD.bindsN FSum fun _ _ _ _ _ _ us hl => match us, hl with | [_, _, _], _ => rfl
  have bDifference : Binds K fdDifference ["most", "y", "z"] [] := FunD.bindsN FDifference fun _ _ _ _ _ _ us hl => match us, hl with | [_, _, _], _ => rfl
  have bCarried : Binds K fdCarried ["most", "y", "z", "carry"] [] := FunD.bindsN FCarried fun _ _ _ _ _ _ us hl => match us, hl with | [_, _, _, _], _ => rfl
  have bBoth : Binds K fdBoth ["most", "y", "z"] [] := FunD.bindsN FBoth fun _ _ _ _ _ _ us hl => match us, hl with | [_, _, _], _ => rfl
  have bEither : Binds K fdEither ["most", "y", "z"] [] := FunD.bindsN FEither fun _ _ _ _ _ _ us hl => match us, hl with | [_, _, _], _ => rfl
  have bUnlike : Binds K fdUnlike ["most", "y", "z"] [] := FunD.bindsN FUnlike fun _ _ _ _ _ _ us hl => match us, hl with | [_, _, _], _ => rfl
  have bSame : Binds K fdSame ["most", "y", "z"] [] := FunD.bindsN FSame fun _ _ _ _ _ _ us hl => match us, hl with | [_, _, _], _ => rfl
  have bBelow : Binds K fdBelow ["most", "y", "z"] [] := FunD.bindsN FBelow fun _ _ _ _ _ _ us hl => match us, hl with | [_, _, _], _ => rfl
  have bTruth : Binds K fdTruth ["most", "never", "always"] [] := FunD.bindsN FTruth fun _ _ _ _ _ _ us hl => match us, hl with | [_, _, _], _ => rfl
  have bUp : Binds K fdUp ["most", "y", "k"] [] := FunD.bindsN FUp fun _ _ _ _ _ _ us hl => match us, hl with | [_, _, _], _ => rfl
  have bDown : Binds K fdDown ["most", "y", "k"] [] := FunD.bindsN FDown fun _ _ _ _ _ _ us hl => match us, hl with | [_, _, _], _ => rfl
  have bPick : Binds K fdPick ["most", "c", "y", "z"] [] := FunD.bindsN FPick fun _ _ _ _ _ _ us hl => match us, hl with | [_, _, _, _], _ => rfl
  have bLBegin : Binds K fdLBegin ["script"] [] := FunD.bindsN FLBegin fun _ _ _ _ _ _ us hl => match us, hl with | [_], _ => rfl
  have bLMixed : Binds K fdLMixed ["cell", "k"] [] := FunD.bindsN FLMixed fun _ _ _ _ _ _ us hl => match us, hl with | [_, _], _ => rfl
  have bLNext : Binds K fdLNext ["draw", "many"] [] := FunD.bindsN FLNext fun _ _ _ _ _ _ us hl => match us, hl with | [_, _], _ => rfl
  have bLBits : Binds K fdLBits ["draw", "wide"] [] := FunD.bindsN FLBits fun _ _ _ _ _ _ us hl => match us, hl with | [_, _], _ => rfl
  have bLFacts : Binds K fdLFacts ["bits"] [] := FunD.bindsN FLFacts fun _ _ _ _ _ _ us hl => match us, hl with | [_], _ => rfl
  have bLSum : Binds K fdLSum ["ones", "others", "sign"] [] := FunD.bindsN FLSum fun _ _ _ _ _ _ us hl => match us, hl with | [_, _, _], _ => rfl
  have bLOrders : Binds K fdLOrders ["ones", "others"] [] := FunD.bindsN FLOrders fun _ _ _ _ _ _ us hl => match us, hl with | [_, _], _ => rfl
  have bLByBits : Binds K fdLByBits ["word", "one", "other"] [] := FunD.bindsN FLByBits fun _ _ _ _ _ _ us hl => match us, hl with | [_, _, _], _ => rfl
  have bLDue : Binds K fdLDue ["wide", "expr", "bits"] [] := FunD.bindsN FLDue fun _ _ _ _ _ _ us hl => match us, hl with | [_, _, _], _ => rfl
  have bLExpr : Binds K fdLExpr ["draw", "wide"] [] := FunD.bindsN FLExpr fun _ _ _ _ _ _ us hl => match us, hl with | [_, _], _ => rfl
  have bLWordsRight : Binds K fdLWordsRight ["wide", "one", "other"] [] := FunD.bindsN FLWordsRight fun _ _ _ _ _ _ us hl => match us, hl with | [_, _, _], _ => rfl
  refine ⟨fdLaw, fun s v => b s [v] rfl, fun base _ _ => ?_⟩
  have kIsWhole : FnOk P w K mg base CX0 1 _ fdIsWhole _ _ := ok_whole FIsWhole m_type m_int
  have kIsFacts : FnOk P w K mg base CX0 2 _ fdIsFacts _ _ := ok_isfacts FIsFacts kIsWhole bIsWhole FIsWhole.kp gIsWhole m_type m_tuple m_len
  have kNamesIn : FnOk P w K mg base CX0 1 _ fdNamesIn _ _ := ok_names_in FNamesIn m_type m_str
  have kCommon : FnOk P w K mg base CX0 1 _ fdCommonFacts _ _ := ok_common FCommonFacts
  have kCarried : FnOk P w K mg base CX0 1 _ fdCarried _ _ := ok_carried FCarried
  have kTruth : FnOk P w K mg base CX0 1 _ fdTruth _ _ := ok_truth FTruth
  have kNumber : FnOk P w K mg base CX0 2 _ fdNumber _ _ := (ok_number FNumber).mono (by decide)
  have kCopy : FnOk P w K mg base CX0 2 _ fdCopy _ _ := (ok_copy FCopy).mono (by decide)
  have kSum : FnOk P w K mg base CX0 2 _ fdSum _ _ := ok_sum FSum kCarried bCarried FCarried.kp gCarried
  have kDifference : FnOk P w K mg base CX0 2 _ fdDifference _ _ := ok_diff FDifference kCarried bCarried FCarried.kp gCarried
  have kBoth : FnOk P w K mg base CX0 2 _ fdBoth _ _ := (ok_both FBoth).mono (by decide)
  have kEither : FnOk P w K mg base CX0 2 _ fdEither _ _ := (ok_either FEither).mono (by decide)
  have kUnlike : FnOk P w K mg base CX0 2 _ fdUnlike _ _ := (ok_unlike FUnlike).mono (by decide)
  have kSame : FnOk P w K mg base CX0 2 _ fdSame _ _ := ok_same FSame kTruth bTruth FTruth.kp gTruth
  have kBelow : FnOk P w K mg base CX0 2 _ fdBelow _ _ := ok_below FBelow kTruth bTruth FTruth.kp gTruth
  have kUp : FnOk P w K mg base CX0 2 _ fdUp _ _ := (ok_up FUp).mono (by decide)
  have kDown : FnOk P w K mg base CX0 2 _ fdDown _ _ := (ok_down FDown).mono (by decide)
  have kPick : FnOk P w K mg base CX0 2 _ fdPick _ _ := ok_pick FPick kCommon bCommonFacts FCommonFacts.kp gCommonFacts
  have T : TabF K w (He.ga K "FACTS_BY_EXPR") _ _ _ _ _ _ _ _ _ _ _ _ := ⟨tv (q := ("number", .glo "_number")) (by simp [tkv]), tv (q := ("copy", .glo "_copy")) (by simp [tkv]), tv (q := ("add", .glo "_sum")) (by simp [tkv]), tv (q := ("less", .glo "_difference")) (by simp [tkv]), tv (q := ("and", .glo "_both")) (by simp [tkv]), tv (q := ("or", .glo "_either")) (by simp [tkv]), tv (q := ("unlike", .glo "_unlike")) (by simp [tkv]), tv (q := ("same", .glo "_same")) (by simp [tkv]), tv (q := ("below", .glo "_below")) (by simp [tkv]), tv (q := ("up", .glo "_up")) (by simp [tkv]), tv (q := ("down", .glo "_down")) (by simp [tkv]), tv (q := ("pick", .glo "_pick")) (by simp [tkv])⟩
  have acts : Acts P w K mg base (He.ga K "FACTS_BY_EXPR") := acts_ok T ⟨⟨_, _, kNumber, FNumber.kp, bNumber⟩⟩ ⟨⟨_, _, kCopy, FCopy.kp, bCopy⟩⟩ ⟨⟨_, _, kSum, FSum.kp, bSum⟩⟩ ⟨⟨_, _, kDifference, FDifference.kp, bDifference⟩⟩ ⟨⟨_, _, kBoth, FBoth.kp, bBoth⟩⟩ ⟨⟨_, _, kEither, FEither.kp, bEither⟩⟩ ⟨⟨_, _, kUnlike, FUnlike.kp, bUnlike⟩⟩ ⟨⟨_, _, kSame, FSame.kp, bSame⟩⟩ ⟨⟨_, _, kBelow, FBelow.kp, bBelow⟩⟩ ⟨⟨_, _, kUp, FUp.kp, bUp⟩⟩ ⟨⟨_, _, kDown, FDown.kp, bDown⟩⟩ ⟨⟨_, _, kPick, FPick.kp, bPick⟩⟩
  have kMade : FnOk P w K mg base CX0 3 _ fdMadeFacts _ _ := ok_made FMadeFacts m_tab acts m_type m_str
  have kExpr : FnOk P w K mg base CX0 4 _ fdExprFacts _ _ := ok_exprf FExprFacts kNamesIn bNamesIn FNamesIn.kp gNamesIn kIsFacts bIsFacts FIsFacts.kp gIsFacts kMade bMadeFacts FMadeFacts.kp gMadeFacts m_type m_dict
  have kLBegin : FnOk P w K mg base CX0 1 _ fdLBegin _ _ := ok_begin FLBegin
  have kLMixed : FnOk P w K mg base CX0 1 _ fdLMixed _ _ := ok_mixed FLMixed
  have kLNext : FnOk P w K mg base CX0 2 _ fdLNext _ _ := ok_next FLNext kLMixed bLMixed FLMixed.kp gLMixed m_len
  have kLFacts : FnOk P w K mg base CX0 1 _ fdLFacts _ _ := ok_lfacts FLFacts m_sum m_enumerate
  have kLBits : FnOk P w K mg base CX0 3 _ fdLBits _ _ := ok_lbits FLBits kLNext bLNext FLNext.kp gLNext m_range
  have kLSum : FnOk P w K mg base CX0 1 _ fdLSum _ _ := ok_lsum FLSum m_zip m_int m_sorted m_set
  have kLOrders : FnOk P w K mg base CX0 1 _ fdLOrders _ _ := ok_lorders FLOrders m_zip m_int m_sorted m_set
  have kLByBits : FnOk P w K mg base CX0 1 _ fdLByBits _ _ := ok_lby FLByBits m_max m_int
  have kLDue : FnOk P w K mg base CX0 2 _ fdLDue _ _ := ok_ldue FLDue kLSum bLSum FLSum.kp gLSum kLOrders bLOrders FLOrders.kp gLOrders kLByBits bLByBits FLByBits.kp gLByBits m_range m_int m_sorted m_set m_sum m_zip
  have kLExpr : FnOk P w K mg base CX0 3 _ fdLExpr _ _ := ok_lexpr FLExpr kLNext bLNext FLNext.kp gLNext m_range m_tuple
  have kLeast : FnOk P w K mg base CX0 1 _ fdLeastWord _ _ := ok_least FLeastWord
  have kGreat : FnOk P w K mg base CX0 1 _ fdGreatestWord _ _ := ok_great FGreatestWord
  have kWR : FnG P w K mg base 2 _ fdLWordsRight _ _ := ok_wr FLWordsRight ⟨_, _, kLFacts, bLFacts, FLFacts.kp, gLFacts⟩ ⟨_, _, kLeast, bLeastWord, FLeastWord.kp, gLeastWord⟩ ⟨_, _, kGreat, bGreatestWord, FGreatestWord.kp, gGreatestWord⟩ ⟨_, _, kCommon, bCommonFacts, FCommonFacts.kp, gCommonFacts⟩ m_sum m_min m_max m_enumerate m_zip m_sorted m_set m_repr
  exact ok_law FLaw ⟨_, _, kLBegin, bLBegin, FLBegin.kp, gLBegin⟩ ⟨_, _, kLNext, bLNext, FLNext.kp, gLNext⟩ ⟨_, _, kLFacts, bLFacts, FLFacts.kp, gLFacts⟩ ⟨_, _, kLBits, bLBits, FLBits.kp, gLBits⟩ ⟨_, _, kLExpr, bLExpr, FLExpr.kp, gLExpr⟩ ⟨_, _, kLDue, bLDue, FLDue.kp, gLDue⟩ ⟨_, _, kExpr, bExprFacts, FExprFacts.kp, gExprFacts⟩ ⟨_, _, kWR, bLWordsRight, FLWordsRight.kp, gLWordsRight⟩ m_range m_min m_len m_int m_dict m_repr
end K12
open PySem PySem.W PySem.Calls PyProof.Rows
theorem PySem.Challenge.cw_bitneed_k12_facts_bit_by_bit_holds : PySem.Challenge.rw_bitneed_k12_facts_bit_by_bit.Holds := by
  w_on; o_law
  refine HandSHeadRun.head_any (r := OpenLaw.row PySem.Challenge.rw_bitneed_k12_facts_bit_by_bit) (q := view (OpenLaw.row PySem.Challenge.rw_bitneed_k12_facts_bit_by_bit).prog [41]) (H := K12.hkS) (ob := K12.ob) (M := 6000) (loose := K12.loose) (d := HandSHeadRun.topDef (OpenLaw.row PySem.Challenge.rw_bitneed_k12_facts_bit_by_bit).prog 41) (kwd := []) K12.ob_eq
    (by kernel_rfl) (fun s => by kernel_rfl) K12.run (by kernel_rfl) (by kernel_rfl) (by kernel_rfl) (by rfl) (by first | assumption | decide +kernel) (by decide +kernel) ⟨rfl, rfl, rfl, rfl, rfl, by decide +kernel⟩ ?hw ?hc
  case hw => w_witness2
  case hc =>
    refine K12.walkG (l := PySem.Challenge.rw_bitneed_k12_facts_bit_by_bit) (n := 63) (k := 5) (x := "script") rfl (by decide) (by kernel_rfl) ⟨rfl, by decide, by decide⟩ ?F
    intro w mg f h Y G hmg0
    obtain ⟨K, KX, c⟩ := Y
    have hmg : mg ("law" : PySem.Str) = some (.ref f) := by
      have e : (HandSHeadRun.topDef (OpenLaw.row PySem.Challenge.rw_bitneed_k12_facts_bit_by_bit).prog 41).name = ("law" : PySem.Str) := by kernel_rfl
      rw [← e]
      exact hmg0
    obtain ⟨fd, hb, hF⟩ := K12.facts (P := (PySem.Challenge.rw_bitneed_k12_facts_bit_by_bit).prog) (w := w) KX G hmg c
    exact ⟨K, fd, K12.spLaw K, KX, hb, hF, fun H a ns hl hS => ⟨a, ns, rfl, hS, hl, fun _ => rfl⟩⟩

