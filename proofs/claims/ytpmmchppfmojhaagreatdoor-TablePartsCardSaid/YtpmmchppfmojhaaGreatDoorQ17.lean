/- What the row stands on, part 17. -/
import Derived.Test.YtpmmchppfmojhaaGreatDoorQ16

/- Of calqueref12: SameLocale. -/
namespace Go.Proofs.YtpmmchppfmojhaaGreatDoor
open Go.RowKit
set_option linter.unusedVariables false

theorem toL_inj {x y : Str} (h : (ofL x).toList = (ofL y).toList) : x = y := by
  rw [ByteArray.toList_eq, ByteArray.toList_eq] at h
  exact h
theorem loc_eq {p q : Loc} (h : (ofL p.tag).toList = (ofL q.tag).toList ∧ (ofL p.par).toList = (ofL q.par).toList ∧ (ofL p.dir).toList = (ofL q.dir).toList ∧ ((ofL p.sy.de).toList = (ofL q.sy.de).toList ∧ (ofL p.sy.gr).toList = (ofL q.sy.gr).toList ∧ (ofL p.sy.mi).toList = (ofL q.sy.mi).toList ∧ (ofL p.sy.pe).toList = (ofL q.sy.pe).toList ∧ p.sy.pr = q.sy.pr ∧ p.sy.se = q.sy.se))
    (x1 : p.ca = q.ca) (x2 : p.oc = q.oc) (x5 : p.li = q.li) (x6 : p.un = q.un) (x7 : p.da = q.da) (x3 : p.mo = q.mo) (x4 : p.dy = q.dy) : p = q := by
  obtain ⟨h1, h2, h3, h4, h5, h6, h7, h8, h9⟩ := h
  have y1 := toL_inj h1
  have y2 := toL_inj h2
  have y3 := toL_inj h3
  have y4 := toL_inj h4
  have y5 := toL_inj h5
  have y6 := toL_inj h6
  have y7 := toL_inj h7
  obtain ⟨_, _, _, _, _, ⟨_, _, _, _, _, _⟩, _, _, _, _, _⟩ := p
  obtain ⟨_, _, _, _, _, ⟨_, _, _, _, _, _⟩, _, _, _, _, _⟩ := q
  dsimp only at *
  subst y1 y2 y3 y4 y5 y6 y7 h8 h9 x1 x2 x3 x4 x5 x6 x7
  rfl
theorem allEq_rul (l m : List Rul) : (allEq ruq l m = false → l ≠ m) ∧ (allEq ruq l m = true → l = m) := ⟨fun h e => by rw [(allEq_iff ruq_iff).2 e] at h; exact Bool.noConfusion h, fun h => (allEq_iff ruq_iff).1 h⟩
theorem teq_iff (a b : Str) : teq a b = true ↔ a = b := decide_eq_true_iff
theorem allEq_teq (l m : List Str) : (allEq teq l m = false → l ≠ m) ∧ (allEq teq l m = true → l = m) := ⟨fun h e => by rw [(allEq_iff teq_iff).2 e] at h; exact Bool.noConfusion h, fun h => (allEq_iff teq_iff).1 h⟩

set_option maxRecDepth 1000000 in
set_option maxHeartbeats 64000000 in
theorem refLocP_any (p q : Loc) {caap caaq : Option Addr} {cacp cacq : Nat} {ocap ocaq : Option Addr} {occp occq : Nat} {liap liaq : Option Addr} {licp licq : Nat} {unap unaq : Option Addr} {uncp uncq : Nat} {daap daaq : Option Addr} {dacp dacq : Nat} {moap moaq : Option Addr} {mocp mocq : Nat} {dyap dyaq : Option Addr} {dycp dycq : Nat} (w : World) (hcap : RdRul w (.slice caap p.ca.length cacp) p.ca) (hocp : RdRul w (.slice ocap p.oc.length occp) p.oc) (hlip : Rd 5 encLi w (.slice liap p.li.length licp) p.li) (hunp : Rd 3 encUn w (.slice unap p.un.length uncp) p.un) (hdap : Rd 2 encDu w (.slice daap p.da.length dacp) p.da) (hmop : Rd 1 encT w (.slice moap p.mo.length mocp) p.mo) (hdyp : Rd 1 encT w (.slice dyap p.dy.length dycp) p.dy) (hcaq : RdRul w (.slice caaq q.ca.length cacq) q.ca) (hocq : RdRul w (.slice ocaq q.oc.length occq) q.oc) (hliq : Rd 5 encLi w (.slice liaq q.li.length licq) q.li) (hunq : Rd 3 encUn w (.slice unaq q.un.length uncq) q.un) (hdaq : Rd 2 encDu w (.slice daaq q.da.length dacq) q.da) (hmoq : Rd 1 encT w (.slice moaq q.mo.length mocq) q.mo) (hdyq : Rd 1 encT w (.slice dyaq q.dy.length dycq) q.dy) :
    Calls Tryz.prog 41 #[.agg #[.string (ofL p.tag), .string (ofL p.par), .string (ofL p.dir), .slice caap p.ca.length cacp, .slice ocap p.oc.length occp, .string (ofL p.sy.de), .string (ofL p.sy.gr), .string (ofL p.sy.mi), .string (ofL p.sy.pe), .int .i64 p.sy.pr, .int .i64 p.sy.se, .slice liap p.li.length licp, .slice unap p.un.length uncp, .slice daap p.da.length dacp, .slice moap p.mo.length mocp, .slice dyap p.dy.length dycp], .agg #[.string (ofL q.tag), .string (ofL q.par), .string (ofL q.dir), .slice caaq q.ca.length cacq, .slice ocaq q.oc.length occq, .string (ofL q.sy.de), .string (ofL q.sy.gr), .string (ofL q.sy.mi), .string (ofL q.sy.pe), .int .i64 q.sy.pr, .int .i64 q.sy.se, .slice liaq q.li.length licq, .slice unaq q.un.length uncq, .slice daaq q.da.length dacq, .slice moaq q.mo.length mocq, .slice dyaq q.dy.length dycq]] w fun e w' => e = .returned (.bool (decide (p = q))) ∧ Below w.heap.size w w' := by
  have Hcap := Lib.hid hcap
  obtain ⟨_, _, _, qcap1, qcap2⟩ := hcap.slice
  have Lcap : p.ca.length ≤ 9223372036854775807 := by omega
  have Hcaq := Lib.hid hcaq
  obtain ⟨_, _, _, qcaq1, qcaq2⟩ := hcaq.slice
  have Lcaq : q.ca.length ≤ 9223372036854775807 := by omega
  have Hocp := Lib.hid hocp
  obtain ⟨_, _, _, qocp1, qocp2⟩ := hocp.slice
  have Locp : p.oc.length ≤ 9223372036854775807 := by omega
  have Hocq := Lib.hid hocq
  obtain ⟨_, _, _, qocq1, qocq2⟩ := hocq.slice
  have Locq : q.oc.length ≤ 9223372036854775807 := by omega
  have Hlip := Lib.hid hlip
  obtain ⟨_, _, _, qlip1, qlip2⟩ := hlip.slice
  have Llip : p.li.length ≤ 9223372036854775807 := by omega
  have Hliq := Lib.hid hliq
  obtain ⟨_, _, _, qliq1, qliq2⟩ := hliq.slice
  have Lliq : q.li.length ≤ 9223372036854775807 := by omega
  have Hunp := Lib.hid hunp
  obtain ⟨_, _, _, qunp1, qunp2⟩ := hunp.slice
  have Lunp : p.un.length ≤ 9223372036854775807 := by omega
  have Hunq := Lib.hid hunq
  obtain ⟨_, _, _, qunq1, qunq2⟩ := hunq.slice
  have Lunq : q.un.length ≤ 9223372036854775807 := by omega
  have Hdap := Lib.hid hdap
  obtain ⟨_, _, _, qdap1, qdap2⟩ := hdap.slice
  have Ldap : p.da.length ≤ 9223372036854775807 := by omega
  have Hdaq := Lib.hid hdaq
  obtain ⟨_, _, _, qdaq1, qdaq2⟩ := hdaq.slice
  have Ldaq : q.da.length ≤ 9223372036854775807 := by omega
  have Hmop := Lib.hid hmop
  obtain ⟨_, _, _, qmop1, qmop2⟩ := hmop.slice
  have Lmop : p.mo.length ≤ 9223372036854775807 := by omega
  have Hmoq := Lib.hid hmoq
  obtain ⟨_, _, _, qmoq1, qmoq2⟩ := hmoq.slice
  have Lmoq : q.mo.length ≤ 9223372036854775807 := by omega
  have Hdyp := Lib.hid hdyp
  obtain ⟨_, _, _, qdyp1, qdyp2⟩ := hdyp.slice
  have Ldyp : p.dy.length ≤ 9223372036854775807 := by omega
  have Hdyq := Lib.hid hdyq
  obtain ⟨_, _, _, qdyq1, qdyq2⟩ := hdyq.slice
  have Ldyq : q.dy.length ≤ 9223372036854775807 := by omega
  clear hcap qcap1 qcap2 hcaq qcaq1 qcaq2 hocp qocp1 qocp2 hocq qocq1 qocq2 hlip qlip1 qlip2 hliq qliq1 qliq2 hunp qunp1 qunp2 hunq qunq1 qunq2 hdap qdap1 qdap2 hdaq qdaq1 qdaq2 hmop qmop1 qmop2 hmoq qmoq1 qmoq2 hdyp qdyp1 qdyp2 hdyq qdyq1 qdyq2
  have BA := (Below.refl w.heap.size w).alloc (Nat.le_refl _) (.cells #[.string (ofL p.tag), .string (ofL p.par), .string (ofL p.dir), .slice caap p.ca.length cacp, .slice ocap p.oc.length occp, .string (ofL p.sy.de), .string (ofL p.sy.gr), .string (ofL p.sy.mi), .string (ofL p.sy.pe), .int .i64 p.sy.pr, .int .i64 p.sy.se, .slice liap p.li.length licp, .slice unap p.un.length uncp, .slice daap p.da.length dacp, .slice moap p.mo.length mocp, .slice dyap p.dy.length dycp] 51)
  have BB := Lib.hid (BA.alloc BA.size (.cells #[.string (ofL q.tag), .string (ofL q.par), .string (ofL q.dir), .slice caaq q.ca.length cacq, .slice ocaq q.oc.length occq, .string (ofL q.sy.de), .string (ofL q.sy.gr), .string (ofL q.sy.mi), .string (ofL q.sy.pe), .int .i64 q.sy.pr, .int .i64 q.sy.se, .slice liaq q.li.length licq, .slice unaq q.un.length uncq, .slice daaq q.da.length dacq, .slice moaq q.mo.length mocq, .slice dyaq q.dy.length dycq] 51))
  clear BA
  have KA : Hid (Blk w.heap.size 51 #[.string (ofL p.tag), .string (ofL p.par), .string (ofL p.dir), .slice caap p.ca.length cacp, .slice ocap p.oc.length occp, .string (ofL p.sy.de), .string (ofL p.sy.gr), .string (ofL p.sy.mi), .string (ofL p.sy.pe), .int .i64 p.sy.pr, .int .i64 p.sy.se, .slice liap p.li.length licp, .slice unap p.un.length uncp, .slice daap p.da.length dacp, .slice moap p.mo.length mocp, .slice dyap p.dy.length dycp] ((w.alloc (.cells #[.string (ofL p.tag), .string (ofL p.par), .string (ofL p.dir), .slice caap p.ca.length cacp, .slice ocap p.oc.length occp, .string (ofL p.sy.de), .string (ofL p.sy.gr), .string (ofL p.sy.mi), .string (ofL p.sy.pe), .int .i64 p.sy.pr, .int .i64 p.sy.se, .slice liap p.li.length licp, .slice unap p.un.length uncp, .slice daap p.da.length dacp, .slice moap p.mo.length mocp, .slice dyap p.dy.length dycp] 51)).alloc (.cells #[.string (ofL q.tag), .string (ofL q.par), .string (ofL q.dir), .slice caaq q.ca.length cacq, .slice ocaq q.oc.length occq, .string (ofL q.sy.de), .string (ofL q.sy.gr), .string (ofL q.sy.mi), .string (ofL q.sy.pe), .int .i64 q.sy.pr, .int .i64 q.sy.se, .slice liaq q.li.length licq, .slice unaq q.un.length uncq, .slice daaq q.da.length dacq, .slice moaq q.mo.length mocq, .slice dyaq q.dy.length dycq] 51))) := Lib.hid (Blk.below (heap_alloc_new w _) ((Below.refl _ _).alloc (Nat.le_refl _) _))
  have KB : Hid (Blk (w.heap.size + 1) 51 #[.string (ofL q.tag), .string (ofL q.par), .string (ofL q.dir), .slice caaq q.ca.length cacq, .slice ocaq q.oc.length occq, .string (ofL q.sy.de), .string (ofL q.sy.gr), .string (ofL q.sy.mi), .string (ofL q.sy.pe), .int .i64 q.sy.pr, .int .i64 q.sy.se, .slice liaq q.li.length licq, .slice unaq q.un.length uncq, .slice daaq q.da.length dacq, .slice moaq q.mo.length mocq, .slice dyaq q.dy.length dycq] ((w.alloc (.cells #[.string (ofL p.tag), .string (ofL p.par), .string (ofL p.dir), .slice caap p.ca.length cacp, .slice ocap p.oc.length occp, .string (ofL p.sy.de), .string (ofL p.sy.gr), .string (ofL p.sy.mi), .string (ofL p.sy.pe), .int .i64 p.sy.pr, .int .i64 p.sy.se, .slice liap p.li.length licp, .slice unap p.un.length uncp, .slice daap p.da.length dacp, .slice moap p.mo.length mocp, .slice dyap p.dy.length dycp] 51)).alloc (.cells #[.string (ofL q.tag), .string (ofL q.par), .string (ofL q.dir), .slice caaq q.ca.length cacq, .slice ocaq q.oc.length occq, .string (ofL q.sy.de), .string (ofL q.sy.gr), .string (ofL q.sy.mi), .string (ofL q.sy.pe), .int .i64 q.sy.pr, .int .i64 q.sy.se, .slice liaq q.li.length licq, .slice unaq q.un.length uncq, .slice daaq q.da.length dacq, .slice moaq q.mo.length mocq, .slice dyaq q.dy.length dycq] 51))) := Lib.hid (by
    have := heap_alloc_new (w.alloc (.cells #[.string (ofL p.tag), .string (ofL p.par), .string (ofL p.dir), .slice caap p.ca.length cacp, .slice ocap p.oc.length occp, .string (ofL p.sy.de), .string (ofL p.sy.gr), .string (ofL p.sy.mi), .string (ofL p.sy.pe), .int .i64 p.sy.pr, .int .i64 p.sy.se, .slice liap p.li.length licp, .slice unap p.un.length uncp, .slice daap p.da.length dacp, .slice moap p.mo.length mocp, .slice dyap p.dy.length dycp] 51)) (.cells #[.string (ofL q.tag), .string (ofL q.par), .string (ofL q.dir), .slice caaq q.ca.length cacq, .slice ocaq q.oc.length occq, .string (ofL q.sy.de), .string (ofL q.sy.gr), .string (ofL q.sy.mi), .string (ofL q.sy.pe), .int .i64 q.sy.pr, .int .i64 q.sy.se, .slice liaq q.li.length licq, .slice unaq q.un.length uncq, .slice daaq q.da.length dacq, .slice moaq q.mo.length mocq, .slice dyaq q.dy.length dycq] 51)
    have e : (w.alloc (.cells #[.string (ofL p.tag), .string (ofL p.par), .string (ofL p.dir), .slice caap p.ca.length cacp, .slice ocap p.oc.length occp, .string (ofL p.sy.de), .string (ofL p.sy.gr), .string (ofL p.sy.mi), .string (ofL p.sy.pe), .int .i64 p.sy.pr, .int .i64 p.sy.se, .slice liap p.li.length licp, .slice unap p.un.length uncp, .slice daap p.da.length dacp, .slice moap p.mo.length mocp, .slice dyap p.dy.length dycp] 51)).heap.size = w.heap.size + 1 := by unfold World.alloc; exact Array.size_push ..
    rw [e] at this
    exact this)
  go_enter Tryz.func41, Tryz.ntmps41
  go_wp2
  all_goals first
    | (go_ret; rename_i hz; (try rw [‹p.sy.pr = q.sy.pr›] at BB); (try rw [‹p.sy.se = q.sy.se›] at BB); exact ⟨ret_bool (a := false) (decide_eq_false (p := p = q) (fun hpq => by subst hpq; first | exact hz rfl | exact absurd hz (by simp))).symm, BB.out⟩)
    | skip
  rw [‹p.sy.pr = q.sy.pr›, ‹p.sy.se = q.sy.se›] at BB KA KB
  have Tli : Hid (p.li.length = q.li.length) := Lib.hid (by omega)
  have Tun : Hid (p.un.length = q.un.length) := Lib.hid (by omega)
  have Tda : Hid (p.da.length = q.da.length) := Lib.hid (by
    have hz : ((p.da.length : Int) != (q.da.length : Int)) = false := by assumption
    rw [bne_eq_false_iff_eq] at hz; omega)
  rename (((p.da.length : Nat) : Int) != ((q.da.length : Nat) : Int)) = false => z3
  rw [z3]
  clear z3
  rename ((p.li.length : Nat) : Int) = ((q.li.length : Nat) : Int) => z1
  rename ((p.un.length : Nat) : Int) = ((q.un.length : Nat) : Int) => z2
  clear z1 z2
  have HS1 : Hid ((ofL p.tag).toList = (ofL q.tag).toList ∧ (ofL p.par).toList = (ofL q.par).toList ∧ (ofL p.dir).toList = (ofL q.dir).toList ∧ ((ofL p.sy.de).toList = (ofL q.sy.de).toList ∧ (ofL p.sy.gr).toList = (ofL q.sy.gr).toList ∧ (ofL p.sy.mi).toList = (ofL q.sy.mi).toList ∧ (ofL p.sy.pe).toList = (ofL q.sy.pe).toList ∧ p.sy.pr = q.sy.pr ∧ p.sy.se = q.sy.se)) := Lib.hid ⟨by assumption, by assumption, by assumption, by assumption, by assumption, by assumption, by assumption, by assumption, by assumption⟩
  go_loopw [5] (fun v wr => ∃ k : Nat, k ≤ p.li.length ∧ v = .int .i64 k ∧ (∀ (j : Nat) (hj : j < p.li.length) (hj' : j < q.li.length), j < k → p.li[j] = q.li[j]) ∧ Below w.heap.size w wr ∧ Blk w.heap.size 51 #[.string (ofL p.tag), .string (ofL p.par), .string (ofL p.dir), .slice caap p.ca.length cacp, .slice ocap p.oc.length occp, .string (ofL p.sy.de), .string (ofL p.sy.gr), .string (ofL p.sy.mi), .string (ofL p.sy.pe), .int .i64 q.sy.pr, .int .i64 q.sy.se, .slice liap p.li.length licp, .slice unap p.un.length uncp, .slice daap p.da.length dacp, .slice moap p.mo.length mocp, .slice dyap p.dy.length dycp] wr ∧ Blk (w.heap.size + 1) 51 #[.string (ofL q.tag), .string (ofL q.par), .string (ofL q.dir), .slice caaq q.ca.length cacq, .slice ocaq q.oc.length occq, .string (ofL q.sy.de), .string (ofL q.sy.gr), .string (ofL q.sy.mi), .string (ofL q.sy.pe), .int .i64 q.sy.pr, .int .i64 q.sy.se, .slice liaq q.li.length licq, .slice unaq q.un.length uncq, .slice daaq q.da.length dacq, .slice moaq q.mo.length mocq, .slice dyaq q.dy.length dycq] wr) (fun v _ => p.li.length - (intOf v).toNat)
  case atStart => exact ⟨0, Nat.zero_le _, rfl, fun j _ _ h => by omega, BB.out, KA.out, KB.out⟩
  case round =>
    obtain ⟨k0, hk0, rfl, hkd0, hb0, ka0, kb0⟩ := hrel
    have HK0 := Lib.hid hkd0
    have HB0 := Lib.hid hb0
    have KA0 := Lib.hid ka0
    have KB0 := Lib.hid kb0
    have sp0 : wr.cell? ⟨w.heap.size, 11, none⟩ = some (.slice liap p.li.length licp) := ka0.cell 11
    have sq0 : wr.cell? ⟨w.heap.size + 1, 11, none⟩ = some (.slice liaq q.li.length licq) := kb0.cell 11
    have spd0 : wr.drew.cell? ⟨w.heap.size, 11, none⟩ = some (.slice liap p.li.length licp) := ka0.cell 11
    have sqd0 : wr.drew.cell? ⟨w.heap.size + 1, 11, none⟩ = some (.slice liaq q.li.length licq) := kb0.cell 11
    clear hkd0 hb0 ka0 kb0
    by_cases hlt : k0 < p.li.length
    · have hlt' : k0 < q.li.length := by have := Tli.out; omega
      obtain ⟨bk, off, rfl, h00, hx⟩ := (Hlip.out.below HB0.out).some_ k0 hlt
      obtain ⟨bk', off', rfl, g00, gx⟩ := (Hliq.out.below HB0.out).some_ k0 hlt'
      have h9 : (k0 : Int) < (p.li.length : Int) := by omega
      have h9' : (k0 : Int) < (q.li.length : Int) := by omega
      obtain ⟨u, hu⟩ : ∃ u, p.li[k0] = u := ⟨_, rfl⟩
      obtain ⟨v, hv⟩ : ∃ v, q.li[k0] = v := ⟨_, rfl⟩
      rw [hu] at hx
      rw [hv] at gx
      have h0 : wr.cell? ⟨bk, off + k0 * 5, none⟩ = some (.string (ofL u.st)) := hx 0 _ rfl
      have g0 : wr.cell? ⟨bk', off' + k0 * 5, none⟩ = some (.string (ofL v.st)) := gx 0 _ rfl
      have h0d : wr.drew.cell? ⟨bk, off + k0 * 5, none⟩ = some (.string (ofL u.st)) := hx 0 _ rfl
      have g0d : wr.drew.cell? ⟨bk', off' + k0 * 5, none⟩ = some (.string (ofL v.st)) := gx 0 _ rfl
      have h1 : wr.cell? ⟨bk, off + k0 * 5 + 1, none⟩ = some (.string (ofL u.two)) := hx 1 _ rfl
      have g1 : wr.cell? ⟨bk', off' + k0 * 5 + 1, none⟩ = some (.string (ofL v.two)) := gx 1 _ rfl
      have h1d : wr.drew.cell? ⟨bk, off + k0 * 5 + 1, none⟩ = some (.string (ofL u.two)) := hx 1 _ rfl
      have g1d : wr.drew.cell? ⟨bk', off' + k0 * 5 + 1, none⟩ = some (.string (ofL v.two)) := gx 1 _ rfl
      have h2 : wr.cell? ⟨bk, off + k0 * 5 + 2, none⟩ = some (.string (ofL u.sa)) := hx 2 _ rfl
      have g2 : wr.cell? ⟨bk', off' + k0 * 5 + 2, none⟩ = some (.string (ofL v.sa)) := gx 2 _ rfl
      have h2d : wr.drew.cell? ⟨bk, off + k0 * 5 + 2, none⟩ = some (.string (ofL u.sa)) := hx 2 _ rfl
      have g2d : wr.drew.cell? ⟨bk', off' + k0 * 5 + 2, none⟩ = some (.string (ofL v.sa)) := gx 2 _ rfl
      have h3 : wr.cell? ⟨bk, off + k0 * 5 + 3, none⟩ = some (.string (ofL u.md)) := hx 3 _ rfl
      have g3 : wr.cell? ⟨bk', off' + k0 * 5 + 3, none⟩ = some (.string (ofL v.md)) := gx 3 _ rfl
      have h3d : wr.drew.cell? ⟨bk, off + k0 * 5 + 3, none⟩ = some (.string (ofL u.md)) := hx 3 _ rfl
      have g3d : wr.drew.cell? ⟨bk', off' + k0 * 5 + 3, none⟩ = some (.string (ofL v.md)) := gx 3 _ rfl
      have h4 : wr.cell? ⟨bk, off + k0 * 5 + 4, none⟩ = some (.string (ofL u.en)) := hx 4 _ rfl
      have g4 : wr.cell? ⟨bk', off' + k0 * 5 + 4, none⟩ = some (.string (ofL v.en)) := gx 4 _ rfl
      have h4d : wr.drew.cell? ⟨bk, off + k0 * 5 + 4, none⟩ = some (.string (ofL u.en)) := hx 4 _ rfl
      have g4d : wr.drew.cell? ⟨bk', off' + k0 * 5 + 4, none⟩ = some (.string (ofL v.en)) := gx 4 _ rfl
      have HU := Lib.hid hu
      have HV := Lib.hid hv
      have e1 := eqLi u v
      clear hx gx hu hv
      by_cases e : u = v
      · subst e
        have ed : decide (u = u) = true := decide_eq_true rfl
        rw [ed] at e1
        go_wp2_with fail
        go_quiet (fail)
        go_wp2
        go_roundw
        case measure => simp [intOf]; omega
        case rel => exact ⟨k0 + 1, by omega, by go_num, fun j hj hj' hjk => by
          rcases Nat.lt_or_ge j k0 with h | h
          · exact HK0.out j hj hj' h
          · obtain rfl : j = k0 := by omega
            rw [HU.out, HV.out], below_drewN HB0.out _, KA0.out.drewN _, KB0.out.drewN _⟩
      · have ed : decide (u = v) = false := decide_eq_false e
        rw [ed] at e1
        have HN : Hid (decide (p = q) = false) := Lib.hid (decide_eq_false (fun hpq => e (by rw [← HU.out, ← HV.out]; subst hpq; rfl)))
        go_wp2_with fail
        go_quiet (fail)
        go_wp2
        go_ret
        exact ⟨ret_bool HN.out.symm, below_drewN HB0.out _⟩
    obtain rfl : k0 = p.li.length := by omega
    have h30 : ¬ (p.li.length : Int) < (p.li.length : Int) := by omega
    have HE0 : Hid (p.li = q.li) := Lib.hid (List.ext_getElem Tli.out (fun j h1 h2 => HK0.out j h1 h2 h1))
    clear hlt
    go_wp2
    go_loopw [6] (fun v wr => ∃ k : Nat, k ≤ p.un.length ∧ v = .int .i64 k ∧ (∀ (j : Nat) (hj : j < p.un.length) (hj' : j < q.un.length), j < k → p.un[j] = q.un[j]) ∧ Below w.heap.size w wr ∧ Blk w.heap.size 51 #[.string (ofL p.tag), .string (ofL p.par), .string (ofL p.dir), .slice caap p.ca.length cacp, .slice ocap p.oc.length occp, .string (ofL p.sy.de), .string (ofL p.sy.gr), .string (ofL p.sy.mi), .string (ofL p.sy.pe), .int .i64 q.sy.pr, .int .i64 q.sy.se, .slice liap p.li.length licp, .slice unap p.un.length uncp, .slice daap p.da.length dacp, .slice moap p.mo.length mocp, .slice dyap p.dy.length dycp] wr ∧ Blk (w.heap.size + 1) 51 #[.string (ofL q.tag), .string (ofL q.par), .string (ofL q.dir), .slice caaq q.ca.length cacq, .slice ocaq q.oc.length occq, .string (ofL q.sy.de), .string (ofL q.sy.gr), .string (ofL q.sy.mi), .string (ofL q.sy.pe), .int .i64 q.sy.pr, .int .i64 q.sy.se, .slice liaq q.li.length licq, .slice unaq q.un.length uncq, .slice daaq q.da.length dacq, .slice moaq q.mo.length mocq, .slice dyaq q.dy.length dycq] wr) (fun v _ => p.un.length - (intOf v).toNat)
    case atStart => exact ⟨0, Nat.zero_le _, rfl, fun j _ _ h => by omega, HB0.out, KA0.out, KB0.out⟩
    case round =>
      obtain ⟨k1, hk1, rfl, hkd1, hb1, ka1, kb1⟩ := hrel
      have HK1 := Lib.hid hkd1
      have HB1 := Lib.hid hb1
      have KA1 := Lib.hid ka1
      have KB1 := Lib.hid kb1
      have sp1 : wr.cell? ⟨w.heap.size, 12, none⟩ = some (.slice unap p.un.length uncp) := ka1.cell 12
      have sq1 : wr.cell? ⟨w.heap.size + 1, 12, none⟩ = some (.slice unaq q.un.length uncq) := kb1.cell 12
      have spd1 : wr.drew.cell? ⟨w.heap.size, 12, none⟩ = some (.slice unap p.un.length uncp) := ka1.cell 12
      have sqd1 : wr.drew.cell? ⟨w.heap.size + 1, 12, none⟩ = some (.slice unaq q.un.length uncq) := kb1.cell 12
      clear hkd1 hb1 ka1 kb1
      by_cases hlt : k1 < p.un.length
      · have hlt' : k1 < q.un.length := by have := Tun.out; omega
        obtain ⟨bk, off, rfl, h00, hx⟩ := (Hunp.out.below HB1.out).some_ k1 hlt
        obtain ⟨bk', off', rfl, g00, gx⟩ := (Hunq.out.below HB1.out).some_ k1 hlt'
        have h9 : (k1 : Int) < (p.un.length : Int) := by omega
        have h9' : (k1 : Int) < (q.un.length : Int) := by omega
        obtain ⟨u, hu⟩ : ∃ u, p.un[k1] = u := ⟨_, rfl⟩
        obtain ⟨v, hv⟩ : ∃ v, q.un[k1] = v := ⟨_, rfl⟩
        rw [hu] at hx
        rw [hv] at gx
        have h0 : wr.cell? ⟨bk, off + k1 * 3, none⟩ = some (.string (ofL u.un)) := hx 0 _ rfl
        have g0 : wr.cell? ⟨bk', off' + k1 * 3, none⟩ = some (.string (ofL v.un)) := gx 0 _ rfl
        have h0d : wr.drew.cell? ⟨bk, off + k1 * 3, none⟩ = some (.string (ofL u.un)) := hx 0 _ rfl
        have g0d : wr.drew.cell? ⟨bk', off' + k1 * 3, none⟩ = some (.string (ofL v.un)) := gx 0 _ rfl
        have h1 : wr.cell? ⟨bk, off + k1 * 3 + 1, none⟩ = some (.string (ofL u.cl)) := hx 1 _ rfl
        have g1 : wr.cell? ⟨bk', off' + k1 * 3 + 1, none⟩ = some (.string (ofL v.cl)) := gx 1 _ rfl
        have h1d : wr.drew.cell? ⟨bk, off + k1 * 3 + 1, none⟩ = some (.string (ofL u.cl)) := hx 1 _ rfl
        have g1d : wr.drew.cell? ⟨bk', off' + k1 * 3 + 1, none⟩ = some (.string (ofL v.cl)) := gx 1 _ rfl
        have h2 : wr.cell? ⟨bk, off + k1 * 3 + 2, none⟩ = some (.string (ofL u.pt)) := hx 2 _ rfl
        have g2 : wr.cell? ⟨bk', off' + k1 * 3 + 2, none⟩ = some (.string (ofL v.pt)) := gx 2 _ rfl
        have h2d : wr.drew.cell? ⟨bk, off + k1 * 3 + 2, none⟩ = some (.string (ofL u.pt)) := hx 2 _ rfl
        have g2d : wr.drew.cell? ⟨bk', off' + k1 * 3 + 2, none⟩ = some (.string (ofL v.pt)) := gx 2 _ rfl
        have HU := Lib.hid hu
        have HV := Lib.hid hv
        have e1 := eqUn u v
        clear hx gx hu hv
        by_cases e : u = v
        · subst e
          have ed : decide (u = u) = true := decide_eq_true rfl
          rw [ed] at e1
          go_wp2_with fail
          go_quiet (fail)
          go_wp2
          go_roundw
          case measure => simp [intOf]; omega
          case rel => exact ⟨k1 + 1, by omega, by go_num, fun j hj hj' hjk => by
            rcases Nat.lt_or_ge j k1 with h | h
            · exact HK1.out j hj hj' h
            · obtain rfl : j = k1 := by omega
              rw [HU.out, HV.out], below_drewN HB1.out _, KA1.out.drewN _, KB1.out.drewN _⟩
        · have ed : decide (u = v) = false := decide_eq_false e
          rw [ed] at e1
          have HN : Hid (decide (p = q) = false) := Lib.hid (decide_eq_false (fun hpq => e (by rw [← HU.out, ← HV.out]; subst hpq; rfl)))
          go_wp2_with fail
          go_quiet (fail)
          go_wp2
          go_ret
          exact ⟨ret_bool HN.out.symm, below_drewN HB1.out _⟩
      obtain rfl : k1 = p.un.length := by omega
      have h31 : ¬ (p.un.length : Int) < (p.un.length : Int) := by omega
      have HE1 : Hid (p.un = q.un) := Lib.hid (List.ext_getElem Tun.out (fun j h1 h2 => HK1.out j h1 h2 h1))
      clear hlt
      go_wp2
      go_loopw [7] (fun v wr => ∃ k : Nat, k ≤ p.da.length ∧ v = .int .i64 k ∧ (∀ (j : Nat) (hj : j < p.da.length) (hj' : j < q.da.length), j < k → p.da[j] = q.da[j]) ∧ Below w.heap.size w wr ∧ Blk w.heap.size 51 #[.string (ofL p.tag), .string (ofL p.par), .string (ofL p.dir), .slice caap p.ca.length cacp, .slice ocap p.oc.length occp, .string (ofL p.sy.de), .string (ofL p.sy.gr), .string (ofL p.sy.mi), .string (ofL p.sy.pe), .int .i64 q.sy.pr, .int .i64 q.sy.se, .slice liap p.li.length licp, .slice unap p.un.length uncp, .slice daap p.da.length dacp, .slice moap p.mo.length mocp, .slice dyap p.dy.length dycp] wr ∧ Blk (w.heap.size + 1) 51 #[.string (ofL q.tag), .string (ofL q.par), .string (ofL q.dir), .slice caaq q.ca.length cacq, .slice ocaq q.oc.length occq, .string (ofL q.sy.de), .string (ofL q.sy.gr), .string (ofL q.sy.mi), .string (ofL q.sy.pe), .int .i64 q.sy.pr, .int .i64 q.sy.se, .slice liaq q.li.length licq, .slice unaq q.un.length uncq, .slice daaq q.da.length dacq, .slice moaq q.mo.length mocq, .slice dyaq q.dy.length dycq] wr) (fun v _ => p.da.length - (intOf v).toNat)
      case atStart => exact ⟨0, Nat.zero_le _, rfl, fun j _ _ h => by omega, HB1.out, KA1.out, KB1.out⟩
      case round =>
        obtain ⟨k2, hk2, rfl, hkd2, hb2, ka2, kb2⟩ := hrel
        have HK2 := Lib.hid hkd2
        have HB2 := Lib.hid hb2
        have KA2 := Lib.hid ka2
        have KB2 := Lib.hid kb2
        have sp2 : wr.cell? ⟨w.heap.size, 13, none⟩ = some (.slice daap p.da.length dacp) := ka2.cell 13
        have sq2 : wr.cell? ⟨w.heap.size + 1, 13, none⟩ = some (.slice daaq q.da.length dacq) := kb2.cell 13
        have spd2 : wr.drew.cell? ⟨w.heap.size, 13, none⟩ = some (.slice daap p.da.length dacp) := ka2.cell 13
        have sqd2 : wr.drew.cell? ⟨w.heap.size + 1, 13, none⟩ = some (.slice daaq q.da.length dacq) := kb2.cell 13
        clear hkd2 hb2 ka2 kb2
        by_cases hlt : k2 < p.da.length
        · have hlt' : k2 < q.da.length := by have := Tda.out; omega
          obtain ⟨bk, off, rfl, h00, hx⟩ := (Hdap.out.below HB2.out).some_ k2 hlt
          obtain ⟨bk', off', rfl, g00, gx⟩ := (Hdaq.out.below HB2.out).some_ k2 hlt'
          have h9 : (k2 : Int) < (p.da.length : Int) := by omega
          have h9' : (k2 : Int) < (q.da.length : Int) := by omega
          obtain ⟨u, hu⟩ : ∃ u, p.da[k2] = u := ⟨_, rfl⟩
          obtain ⟨v, hv⟩ : ∃ v, q.da[k2] = v := ⟨_, rfl⟩
          rw [hu] at hx
          rw [hv] at gx
          have h0 : wr.cell? ⟨bk, off + k2 * 2, none⟩ = some (.string (ofL u.1)) := hx 0 _ rfl
          have g0 : wr.cell? ⟨bk', off' + k2 * 2, none⟩ = some (.string (ofL v.1)) := gx 0 _ rfl
          have h0d : wr.drew.cell? ⟨bk, off + k2 * 2, none⟩ = some (.string (ofL u.1)) := hx 0 _ rfl
          have g0d : wr.drew.cell? ⟨bk', off' + k2 * 2, none⟩ = some (.string (ofL v.1)) := gx 0 _ rfl
          have h1 : wr.cell? ⟨bk, off + k2 * 2 + 1, none⟩ = some (.string (ofL u.2)) := hx 1 _ rfl
          have g1 : wr.cell? ⟨bk', off' + k2 * 2 + 1, none⟩ = some (.string (ofL v.2)) := gx 1 _ rfl
          have h1d : wr.drew.cell? ⟨bk, off + k2 * 2 + 1, none⟩ = some (.string (ofL u.2)) := hx 1 _ rfl
          have g1d : wr.drew.cell? ⟨bk', off' + k2 * 2 + 1, none⟩ = some (.string (ofL v.2)) := gx 1 _ rfl
          have HU := Lib.hid hu
          have HV := Lib.hid hv
          have e1 := eqDa u v
          clear hx gx hu hv
          by_cases e : u = v
          · subst e
            have ed : decide (u = u) = true := decide_eq_true rfl
            rw [ed] at e1
            go_wp2_with fail
            go_quiet (fail)
            go_wp2
            go_roundw
            case measure => simp [intOf]; omega
            case rel => exact ⟨k2 + 1, by omega, by go_num, fun j hj hj' hjk => by
              rcases Nat.lt_or_ge j k2 with h | h
              · exact HK2.out j hj hj' h
              · obtain rfl : j = k2 := by omega
                rw [HU.out, HV.out], below_drewN HB2.out _, KA2.out.drewN _, KB2.out.drewN _⟩
          · have ed : decide (u = v) = false := decide_eq_false e
            rw [ed] at e1
            have HN : Hid (decide (p = q) = false) := Lib.hid (decide_eq_false (fun hpq => e (by rw [← HU.out, ← HV.out]; subst hpq; rfl)))
            go_wp2_with fail
            go_quiet (fail)
            go_wp2
            go_ret
            exact ⟨ret_bool HN.out.symm, below_drewN HB2.out _⟩
        obtain rfl : k2 = p.da.length := by omega
        have h32 : ¬ (p.da.length : Int) < (p.da.length : Int) := by omega
        have HE2 : Hid (p.da = q.da) := Lib.hid (List.ext_getElem Tda.out (fun j h1 h2 => HK2.out j h1 h2 h1))
        clear hlt
        have HPQ : Hid (p.ca = q.ca → p.oc = q.oc → p.mo = q.mo → p.dy = q.dy → p = q) := Lib.hid (fun x1 x2 x3 x4 => loc_eq HS1.out x1 x2 HE0.out HE1.out HE2.out x3 x4)
        have ca0 : wr.cell? ⟨w.heap.size, 3, none⟩ = some (.slice caap p.ca.length cacp) := KA2.out.cell 3
        have cb0 : wr.cell? ⟨w.heap.size + 1, 3, none⟩ = some (.slice caaq q.ca.length cacq) := KB2.out.cell 3
        have HC0 := Lib.hid (refRules_any (.slice caap p.ca.length cacp) (.slice caaq q.ca.length cacq) p.ca q.ca wr (Hcap.out.below HB2.out) (Hcaq.out.below HB2.out))
        have HI0 := Lib.hid (allEq_rul p.ca q.ca)
        obtain ⟨b0, hb0⟩ : ∃ b, allEq ruq p.ca q.ca = b := ⟨_, rfl⟩
        rw [hb0] at HC0 HI0
        clear hb0
        go_wp2_with fail
        refine HC0.out.mono ?_
        rintro e w1 ⟨rfl, b0'⟩
        have B1 := Lib.hid (HB2.out.trans (b0'.mono HB2.out.size))
        have K1a := Lib.hid (KA2.out.below b0')
        have K1b := Lib.hid (KB2.out.below b0')
        clear b0' ca0 cb0
        cases b0 with
        | false =>
          have HN : Hid (decide (p = q) = false) := Lib.hid (decide_eq_false (fun hpq => HI0.out.1 rfl (by rw [hpq])))
          go_wp2
          go_ret
          exact ⟨ret_bool HN.out.symm, B1.out⟩
        | true =>
          have HT0 := Lib.hid (HI0.out.2 rfl)
          have ca1' : w1.cell? ⟨w.heap.size, 4, none⟩ = some (.slice ocap p.oc.length occp) := K1a.out.cell 4
          have cb1' : w1.cell? ⟨w.heap.size + 1, 4, none⟩ = some (.slice ocaq q.oc.length occq) := K1b.out.cell 4
          go_wp2_with fail
          have ca1 : w1.cell? ⟨w.heap.size, 4, none⟩ = some (.slice ocap p.oc.length occp) := K1a.out.cell 4
          have cb1 : w1.cell? ⟨w.heap.size + 1, 4, none⟩ = some (.slice ocaq q.oc.length occq) := K1b.out.cell 4
          have HC1 := Lib.hid (refRules_any (.slice ocap p.oc.length occp) (.slice ocaq q.oc.length occq) p.oc q.oc w1 (Hocp.out.below B1.out) (Hocq.out.below B1.out))
          have HI1 := Lib.hid (allEq_rul p.oc q.oc)
          obtain ⟨b1, hb1⟩ : ∃ b, allEq ruq p.oc q.oc = b := ⟨_, rfl⟩
          rw [hb1] at HC1 HI1
          clear hb1
          refine HC1.out.mono ?_
          rintro e w2 ⟨rfl, b1'⟩
          have B2 := Lib.hid (B1.out.trans (b1'.mono B1.out.size))
          have K2a := Lib.hid (K1a.out.below b1')
          have K2b := Lib.hid (K1b.out.below b1')
          clear b1' ca1 cb1
          cases b1 with
          | false =>
            have HN : Hid (decide (p = q) = false) := Lib.hid (decide_eq_false (fun hpq => HI1.out.1 rfl (by rw [hpq])))
            go_wp2
            go_ret
            exact ⟨ret_bool HN.out.symm, B2.out⟩
          | true =>
            have HT1 := Lib.hid (HI1.out.2 rfl)
            have ca2' : w2.cell? ⟨w.heap.size, 14, none⟩ = some (.slice moap p.mo.length mocp) := K2a.out.cell 14
            have cb2' : w2.cell? ⟨w.heap.size + 1, 14, none⟩ = some (.slice moaq q.mo.length mocq) := K2b.out.cell 14
            go_wp2_with fail
            have ca2 : w2.cell? ⟨w.heap.size, 14, none⟩ = some (.slice moap p.mo.length mocp) := K2a.out.cell 14
            have cb2 : w2.cell? ⟨w.heap.size + 1, 14, none⟩ = some (.slice moaq q.mo.length mocq) := K2b.out.cell 14
            have HC2 := Lib.hid (refTexts_any (.slice moap p.mo.length mocp) (.slice moaq q.mo.length mocq) p.mo q.mo w2 (Hmop.out.below B2.out) (Hmoq.out.below B2.out))
            have HI2 := Lib.hid (allEq_teq p.mo q.mo)
            obtain ⟨b2, hb2⟩ : ∃ b, allEq teq p.mo q.mo = b := ⟨_, rfl⟩
            rw [hb2] at HC2 HI2
            clear hb2
            refine HC2.out.mono ?_
            rintro e w3 ⟨rfl, b2'⟩
            have B3 := Lib.hid (B2.out.trans (b2'.mono B2.out.size))
            have K3a := Lib.hid (K2a.out.below b2')
            have K3b := Lib.hid (K2b.out.below b2')
            clear b2' ca2 cb2
            cases b2 with
            | false =>
              have HN : Hid (decide (p = q) = false) := Lib.hid (decide_eq_false (fun hpq => HI2.out.1 rfl (by rw [hpq])))
              go_wp2
              go_ret
              exact ⟨ret_bool HN.out.symm, B3.out⟩
            | true =>
              have HT2 := Lib.hid (HI2.out.2 rfl)
              have ca3' : w3.cell? ⟨w.heap.size, 15, none⟩ = some (.slice dyap p.dy.length dycp) := K3a.out.cell 15
              have cb3' : w3.cell? ⟨w.heap.size + 1, 15, none⟩ = some (.slice dyaq q.dy.length dycq) := K3b.out.cell 15
              go_wp2_with fail
              have ca3 : w3.cell? ⟨w.heap.size, 15, none⟩ = some (.slice dyap p.dy.length dycp) := K3a.out.cell 15
              have cb3 : w3.cell? ⟨w.heap.size + 1, 15, none⟩ = some (.slice dyaq q.dy.length dycq) := K3b.out.cell 15
              have HC3 := Lib.hid (refTexts_any (.slice dyap p.dy.length dycp) (.slice dyaq q.dy.length dycq) p.dy q.dy w3 (Hdyp.out.below B3.out) (Hdyq.out.below B3.out))
              have HI3 := Lib.hid (allEq_teq p.dy q.dy)
              obtain ⟨b3, hb3⟩ : ∃ b, allEq teq p.dy q.dy = b := ⟨_, rfl⟩
              rw [hb3] at HC3 HI3
              clear hb3
              refine HC3.out.mono ?_
              rintro e w4 ⟨rfl, b3'⟩
              have B4 := Lib.hid (B3.out.trans (b3'.mono B3.out.size))
              have K4a := Lib.hid (K3a.out.below b3')
              have K4b := Lib.hid (K3b.out.below b3')
              clear b3' ca3 cb3
              cases b3 with
              | false =>
                have HN : Hid (decide (p = q) = false) := Lib.hid (decide_eq_false (fun hpq => HI3.out.1 rfl (by rw [hpq])))
                go_wp2
                go_ret
                exact ⟨ret_bool HN.out.symm, B4.out⟩
              | true =>
                have HT3 := Lib.hid (HI3.out.2 rfl)
                have HN : Hid (decide (p = q) = true) := Lib.hid (decide_eq_true (HPQ.out HT0.out HT1.out HT2.out HT3.out))
                go_wp2
                go_ret
                exact ⟨ret_bool HN.out.symm, B4.out⟩
end Go.Proofs.YtpmmchppfmojhaaGreatDoor


/- Of calqueref12: Equal. -/
namespace Go.Proofs.YtpmmchppfmojhaaGreatDoor
open Go.RowKit
set_option linter.unusedVariables false

theorem tab_eq {p q : Tab} (h1 : p.lo = q.lo) (h2 : p.al = q.al) (h3 : p.ne = q.ne) : p = q := by
  obtain ⟨_, _, _⟩ := p
  obtain ⟨_, _, _⟩ := q
  dsimp only at h1 h2 h3
  subst h1 h2 h3
  rfl
theorem refLoc_any (x y : RawLo) (p q : Loc) (w : World) (hx : LocOk w x p) (hy : LocOk w y q) :
    Calls Tryz.prog 41 #[.agg #[.string (ofL x.tag), .string (ofL x.par), .string (ofL x.dir), .slice x.ca.a x.ca.n x.ca.c, .slice x.oc.a x.oc.n x.oc.c, .string (ofL x.sy.de), .string (ofL x.sy.gr), .string (ofL x.sy.mi), .string (ofL x.sy.pe), .int .i64 x.sy.pr, .int .i64 x.sy.se, .slice x.li.a x.li.n x.li.c, .slice x.un.a x.un.n x.un.c, .slice x.da.a x.da.n x.da.c, .slice x.mo.a x.mo.n x.mo.c, .slice x.dy.a x.dy.n x.dy.c], .agg #[.string (ofL y.tag), .string (ofL y.par), .string (ofL y.dir), .slice y.ca.a y.ca.n y.ca.c, .slice y.oc.a y.oc.n y.oc.c, .string (ofL y.sy.de), .string (ofL y.sy.gr), .string (ofL y.sy.mi), .string (ofL y.sy.pe), .int .i64 y.sy.pr, .int .i64 y.sy.se, .slice y.li.a y.li.n y.li.c, .slice y.un.a y.un.n y.un.c, .slice y.da.a y.da.n y.da.c, .slice y.mo.a y.mo.n y.mo.c, .slice y.dy.a y.dy.n y.dy.c]] w fun e w' => e = .returned (.bool (decide (p = q))) ∧ Below w.heap.size w w' := by
  obtain ⟨xtag, xpar, xdir, ⟨xcaa, xcan, xcac⟩, ⟨xoca, xocn, xocc⟩, xsy, ⟨xlia, xlin, xlic⟩, ⟨xuna, xunn, xunc⟩, ⟨xdaa, xdan, xdac⟩, ⟨xmoa, xmon, xmoc⟩, ⟨xdya, xdyn, xdyc⟩⟩ := x
  obtain ⟨hx1, hx2, hx3, hx4, hx5, hx6, hx7, hx8, hx9, hx10, hx11⟩ := hx
  dsimp only at hx1 hx2 hx3 hx4 hx5 hx6 hx7 hx8 hx9 hx10 hx11
  subst hx1 hx2 hx3 hx4
  obtain rfl : xcan = p.ca.length := hx5.len.symm
  obtain rfl : xocn = p.oc.length := hx6.len.symm
  obtain rfl : xlin = p.li.length := hx7.len.symm
  obtain rfl : xunn = p.un.length := hx8.len.symm
  obtain rfl : xdan = p.da.length := hx9.len.symm
  obtain rfl : xmon = p.mo.length := hx10.len.symm
  obtain rfl : xdyn = p.dy.length := hx11.len.symm
  obtain ⟨ytag, ypar, ydir, ⟨ycaa, ycan, ycac⟩, ⟨yoca, yocn, yocc⟩, ysy, ⟨ylia, ylin, ylic⟩, ⟨yuna, yunn, yunc⟩, ⟨ydaa, ydan, ydac⟩, ⟨ymoa, ymon, ymoc⟩, ⟨ydya, ydyn, ydyc⟩⟩ := y
  obtain ⟨hy1, hy2, hy3, hy4, hy5, hy6, hy7, hy8, hy9, hy10, hy11⟩ := hy
  dsimp only at hy1 hy2 hy3 hy4 hy5 hy6 hy7 hy8 hy9 hy10 hy11
  subst hy1 hy2 hy3 hy4
  obtain rfl : ycan = q.ca.length := hy5.len.symm
  obtain rfl : yocn = q.oc.length := hy6.len.symm
  obtain rfl : ylin = q.li.length := hy7.len.symm
  obtain rfl : yunn = q.un.length := hy8.len.symm
  obtain rfl : ydan = q.da.length := hy9.len.symm
  obtain rfl : ymon = q.mo.length := hy10.len.symm
  obtain rfl : ydyn = q.dy.length := hy11.len.symm
  exact refLocP_any p q w hx5 hx6 hx7 hx8 hx9 hx10 hx11 hy5 hy6 hy7 hy8 hy9 hy10 hy11
set_option maxRecDepth 1000000 in
set_option maxHeartbeats 64000000 in
theorem refTabP_any (p q : Tab) {loap alap neap loaq alaq neaq : Option Addr} {locp alcp necp locq alcq necq : Nat} (w : World) (hp : RdTab w (.slice loap p.lo.length locp) (.slice alap p.al.length alcp) (.slice neap p.ne.length necp) p) (hq : RdTab w (.slice loaq q.lo.length locq) (.slice alaq q.al.length alcq) (.slice neaq q.ne.length necq) q) :
    Calls Tryz.prog 15 #[.agg #[.slice loap p.lo.length locp, .slice alap p.al.length alcp, .slice neap p.ne.length necp], .agg #[.slice loaq q.lo.length locq, .slice alaq q.al.length alcq, .slice neaq q.ne.length necq]] w fun e w' => e = .returned (.bool (decide (p = q))) ∧ Below w.heap.size w w' := by
  have Hlop := Lib.hid hp.lo
  obtain ⟨_, _, _, qlop1, qlop2⟩ := hp.lo.slice
  have Llop : p.lo.length ≤ 9223372036854775807 := by omega
  have Halp := Lib.hid hp.al
  obtain ⟨_, _, _, qalp1, qalp2⟩ := hp.al.slice
  have Lalp : p.al.length ≤ 9223372036854775807 := by omega
  have Hnep := Lib.hid hp.ne
  obtain ⟨_, _, _, qnep1, qnep2⟩ := hp.ne.slice
  have Lnep : p.ne.length ≤ 9223372036854775807 := by omega
  have Hloq := Lib.hid hq.lo
  obtain ⟨_, _, _, qloq1, qloq2⟩ := hq.lo.slice
  have Lloq : q.lo.length ≤ 9223372036854775807 := by omega
  have Halq := Lib.hid hq.al
  obtain ⟨_, _, _, qalq1, qalq2⟩ := hq.al.slice
  have Lalq : q.al.length ≤ 9223372036854775807 := by omega
  have Hneq := Lib.hid hq.ne
  obtain ⟨_, _, _, qneq1, qneq2⟩ := hq.ne.slice
  have Lneq : q.ne.length ≤ 9223372036854775807 := by omega
  clear hp hq qlop1 qlop2 qloq1 qloq2 qalp1 qalp2 qalq1 qalq2 qnep1 qnep2 qneq1 qneq2
  have BA := (Below.refl w.heap.size w).alloc (Nat.le_refl _) (.cells #[.slice loap p.lo.length locp, .slice alap p.al.length alcp, .slice neap p.ne.length necp] 27)
  have BB := Lib.hid (BA.alloc BA.size (.cells #[.slice loaq q.lo.length locq, .slice alaq q.al.length alcq, .slice neaq q.ne.length necq] 27))
  clear BA
  have KA : Hid (Blk w.heap.size 27 #[.slice loap p.lo.length locp, .slice alap p.al.length alcp, .slice neap p.ne.length necp] ((w.alloc (.cells #[.slice loap p.lo.length locp, .slice alap p.al.length alcp, .slice neap p.ne.length necp] 27)).alloc (.cells #[.slice loaq q.lo.length locq, .slice alaq q.al.length alcq, .slice neaq q.ne.length necq] 27))) := Lib.hid (Blk.below (heap_alloc_new w _) ((Below.refl _ _).alloc (Nat.le_refl _) _))
  have KB : Hid (Blk (w.heap.size + 1) 27 #[.slice loaq q.lo.length locq, .slice alaq q.al.length alcq, .slice neaq q.ne.length necq] ((w.alloc (.cells #[.slice loap p.lo.length locp, .slice alap p.al.length alcp, .slice neap p.ne.length necp] 27)).alloc (.cells #[.slice loaq q.lo.length locq, .slice alaq q.al.length alcq, .slice neaq q.ne.length necq] 27))) := Lib.hid (by
    have := heap_alloc_new (w.alloc (.cells #[.slice loap p.lo.length locp, .slice alap p.al.length alcp, .slice neap p.ne.length necp] 27)) (.cells #[.slice loaq q.lo.length locq, .slice alaq q.al.length alcq, .slice neaq q.ne.length necq] 27)
    have e : (w.alloc (.cells #[.slice loap p.lo.length locp, .slice alap p.al.length alcp, .slice neap p.ne.length necp] 27)).heap.size = w.heap.size + 1 := by unfold World.alloc; exact Array.size_push ..
    rw [e] at this
    exact this)
  go_enter Tryz.func15, Tryz.ntmps15
  go_wp2
  all_goals first
    | (go_ret; rename_i hz; exact ⟨ret_bool (a := false) (decide_eq_false (p := p = q) (fun hpq => by subst hpq; first | exact hz rfl | exact absurd hz (by simp))).symm, BB.out⟩)
    | skip
  have Tlo : Hid (p.lo.length = q.lo.length) := Lib.hid (by omega)
  have Tal : Hid (p.al.length = q.al.length) := Lib.hid (by omega)
  have Tne : Hid (p.ne.length = q.ne.length) := Lib.hid (by
    have hz : ((p.ne.length : Int) != (q.ne.length : Int)) = false := by assumption
    rw [bne_eq_false_iff_eq] at hz; omega)
  rename (((p.ne.length : Nat) : Int) != ((q.ne.length : Nat) : Int)) = false => z3
  rw [z3]
  clear z3
  rename ((p.lo.length : Nat) : Int) = ((q.lo.length : Nat) : Int) => z1
  rename ((p.al.length : Nat) : Int) = ((q.al.length : Nat) : Int) => z2
  clear z1 z2
  go_loopw [5] (fun v wr => ∃ k : Nat, k ≤ p.lo.length ∧ v = .int .i64 k ∧ (∀ (j : Nat) (hj : j < p.lo.length) (hj' : j < q.lo.length), j < k → p.lo[j] = q.lo[j]) ∧ Below w.heap.size w wr ∧ Blk w.heap.size 27 #[.slice loap p.lo.length locp, .slice alap p.al.length alcp, .slice neap p.ne.length necp] wr ∧ Blk (w.heap.size + 1) 27 #[.slice loaq q.lo.length locq, .slice alaq q.al.length alcq, .slice neaq q.ne.length necq] wr) (fun v _ => p.lo.length - (intOf v).toNat)
  case atStart => exact ⟨0, Nat.zero_le _, rfl, fun j _ _ h => by omega, BB.out, KA.out, KB.out⟩
  case round =>
    obtain ⟨k0, hk0, rfl, hkd0, hb0, ka0, kb0⟩ := hrel
    have HK0 := Lib.hid hkd0
    have HB0 := Lib.hid hb0
    have KA0 := Lib.hid ka0
    have KB0 := Lib.hid kb0
    have zr0 := hb0.size
    have sp0 : wr.cell? ⟨w.heap.size, 0, none⟩ = some (.slice loap p.lo.length locp) := ka0.cell 0
    have sq0 : wr.cell? ⟨w.heap.size + 1, 0, none⟩ = some (.slice loaq q.lo.length locq) := kb0.cell 0
    have spd0 : wr.drew.cell? ⟨w.heap.size, 0, none⟩ = some (.slice loap p.lo.length locp) := ka0.cell 0
    have sqd0 : wr.drew.cell? ⟨w.heap.size + 1, 0, none⟩ = some (.slice loaq q.lo.length locq) := kb0.cell 0
    clear hkd0 hb0 ka0 kb0
    by_cases hlt : k0 < p.lo.length
    · have hlt' : k0 < q.lo.length := by have := Tlo.out; omega
      have h9 : (k0 : Int) < (p.lo.length : Int) := by omega
      have h9' : (k0 : Int) < (q.lo.length : Int) := by omega
      obtain ⟨bk, off, xx, rfl, h00, hx, ok⟩ := (Hlop.out.below HB0.out).at_ k0 hlt
      obtain ⟨bk', off', yy, rfl, g00, gx, ok'⟩ := (Hloq.out.below HB0.out).at_ k0 hlt'
      obtain ⟨u, hu⟩ : ∃ u, p.lo[k0] = u := ⟨_, rfl⟩
      obtain ⟨v, hv⟩ : ∃ v, q.lo[k0] = v := ⟨_, rfl⟩
      rw [hu] at ok
      rw [hv] at ok'
      have h0 : wr.cell? ⟨bk, off + k0 * 16, none⟩ = some (.string (ofL xx.tag)) := hx 0 _ rfl
      have g0 : wr.cell? ⟨bk', off' + k0 * 16, none⟩ = some (.string (ofL yy.tag)) := gx 0 _ rfl
      have h1 : wr.cell? ⟨bk, off + k0 * 16 + 1, none⟩ = some (.string (ofL xx.par)) := hx 1 _ rfl
      have g1 : wr.cell? ⟨bk', off' + k0 * 16 + 1, none⟩ = some (.string (ofL yy.par)) := gx 1 _ rfl
      have h2 : wr.cell? ⟨bk, off + k0 * 16 + 2, none⟩ = some (.string (ofL xx.dir)) := hx 2 _ rfl
      have g2 : wr.cell? ⟨bk', off' + k0 * 16 + 2, none⟩ = some (.string (ofL yy.dir)) := gx 2 _ rfl
      have h3 : wr.cell? ⟨bk, off + k0 * 16 + 3, none⟩ = some (.slice xx.ca.a xx.ca.n xx.ca.c) := hx 3 _ rfl
      have g3 : wr.cell? ⟨bk', off' + k0 * 16 + 3, none⟩ = some (.slice yy.ca.a yy.ca.n yy.ca.c) := gx 3 _ rfl
      have h4 : wr.cell? ⟨bk, off + k0 * 16 + 4, none⟩ = some (.slice xx.oc.a xx.oc.n xx.oc.c) := hx 4 _ rfl
      have g4 : wr.cell? ⟨bk', off' + k0 * 16 + 4, none⟩ = some (.slice yy.oc.a yy.oc.n yy.oc.c) := gx 4 _ rfl
      have h5 : wr.cell? ⟨bk, off + k0 * 16 + 5, none⟩ = some (.string (ofL xx.sy.de)) := hx 5 _ rfl
      have g5 : wr.cell? ⟨bk', off' + k0 * 16 + 5, none⟩ = some (.string (ofL yy.sy.de)) := gx 5 _ rfl
      have h6 : wr.cell? ⟨bk, off + k0 * 16 + 6, none⟩ = some (.string (ofL xx.sy.gr)) := hx 6 _ rfl
      have g6 : wr.cell? ⟨bk', off' + k0 * 16 + 6, none⟩ = some (.string (ofL yy.sy.gr)) := gx 6 _ rfl
      have h7 : wr.cell? ⟨bk, off + k0 * 16 + 7, none⟩ = some (.string (ofL xx.sy.mi)) := hx 7 _ rfl
      have g7 : wr.cell? ⟨bk', off' + k0 * 16 + 7, none⟩ = some (.string (ofL yy.sy.mi)) := gx 7 _ rfl
      have h8 : wr.cell? ⟨bk, off + k0 * 16 + 8, none⟩ = some (.string (ofL xx.sy.pe)) := hx 8 _ rfl
      have g8 : wr.cell? ⟨bk', off' + k0 * 16 + 8, none⟩ = some (.string (ofL yy.sy.pe)) := gx 8 _ rfl
      have h9 : wr.cell? ⟨bk, off + k0 * 16 + 9, none⟩ = some (.int .i64 xx.sy.pr) := hx 9 _ rfl
      have g9 : wr.cell? ⟨bk', off' + k0 * 16 + 9, none⟩ = some (.int .i64 yy.sy.pr) := gx 9 _ rfl
      have h10 : wr.cell? ⟨bk, off + k0 * 16 + 10, none⟩ = some (.int .i64 xx.sy.se) := hx 10 _ rfl
      have g10 : wr.cell? ⟨bk', off' + k0 * 16 + 10, none⟩ = some (.int .i64 yy.sy.se) := gx 10 _ rfl
      have h11 : wr.cell? ⟨bk, off + k0 * 16 + 11, none⟩ = some (.slice xx.li.a xx.li.n xx.li.c) := hx 11 _ rfl
      have g11 : wr.cell? ⟨bk', off' + k0 * 16 + 11, none⟩ = some (.slice yy.li.a yy.li.n yy.li.c) := gx 11 _ rfl
      have h12 : wr.cell? ⟨bk, off + k0 * 16 + 12, none⟩ = some (.slice xx.un.a xx.un.n xx.un.c) := hx 12 _ rfl
      have g12 : wr.cell? ⟨bk', off' + k0 * 16 + 12, none⟩ = some (.slice yy.un.a yy.un.n yy.un.c) := gx 12 _ rfl
      have h13 : wr.cell? ⟨bk, off + k0 * 16 + 13, none⟩ = some (.slice xx.da.a xx.da.n xx.da.c) := hx 13 _ rfl
      have g13 : wr.cell? ⟨bk', off' + k0 * 16 + 13, none⟩ = some (.slice yy.da.a yy.da.n yy.da.c) := gx 13 _ rfl
      have h14 : wr.cell? ⟨bk, off + k0 * 16 + 14, none⟩ = some (.slice xx.mo.a xx.mo.n xx.mo.c) := hx 14 _ rfl
      have g14 : wr.cell? ⟨bk', off' + k0 * 16 + 14, none⟩ = some (.slice yy.mo.a yy.mo.n yy.mo.c) := gx 14 _ rfl
      have h15 : wr.cell? ⟨bk, off + k0 * 16 + 15, none⟩ = some (.slice xx.dy.a xx.dy.n xx.dy.c) := hx 15 _ rfl
      have g15 : wr.cell? ⟨bk', off' + k0 * 16 + 15, none⟩ = some (.slice yy.dy.a yy.dy.n yy.dy.c) := gx 15 _ rfl
      have HCE : Hid (∀ wx, Below wr.heap.size wr wx → wx.cell? ⟨w.heap.size, 0, none⟩ = some (.slice (some ⟨bk, off, none⟩) p.lo.length locp) ∧ wx.cell? ⟨w.heap.size + 1, 0, none⟩ = some (.slice (some ⟨bk', off', none⟩) q.lo.length locq) ∧ wx.cell? ⟨bk, off + k0 * 16, none⟩ = some (.string (ofL xx.tag)) ∧ wx.cell? ⟨bk', off' + k0 * 16, none⟩ = some (.string (ofL yy.tag)) ∧ wx.cell? ⟨bk, off + k0 * 16 + 1, none⟩ = some (.string (ofL xx.par)) ∧ wx.cell? ⟨bk', off' + k0 * 16 + 1, none⟩ = some (.string (ofL yy.par)) ∧ wx.cell? ⟨bk, off + k0 * 16 + 2, none⟩ = some (.string (ofL xx.dir)) ∧ wx.cell? ⟨bk', off' + k0 * 16 + 2, none⟩ = some (.string (ofL yy.dir)) ∧ wx.cell? ⟨bk, off + k0 * 16 + 3, none⟩ = some (.slice xx.ca.a xx.ca.n xx.ca.c) ∧ wx.cell? ⟨bk', off' + k0 * 16 + 3, none⟩ = some (.slice yy.ca.a yy.ca.n yy.ca.c) ∧ wx.cell? ⟨bk, off + k0 * 16 + 4, none⟩ = some (.slice xx.oc.a xx.oc.n xx.oc.c) ∧ wx.cell? ⟨bk', off' + k0 * 16 + 4, none⟩ = some (.slice yy.oc.a yy.oc.n yy.oc.c) ∧ wx.cell? ⟨bk, off + k0 * 16 + 5, none⟩ = some (.string (ofL xx.sy.de)) ∧ wx.cell? ⟨bk', off' + k0 * 16 + 5, none⟩ = some (.string (ofL yy.sy.de)) ∧ wx.cell? ⟨bk, off + k0 * 16 + 6, none⟩ = some (.string (ofL xx.sy.gr)) ∧ wx.cell? ⟨bk', off' + k0 * 16 + 6, none⟩ = some (.string (ofL yy.sy.gr)) ∧ wx.cell? ⟨bk, off + k0 * 16 + 7, none⟩ = some (.string (ofL xx.sy.mi)) ∧ wx.cell? ⟨bk', off' + k0 * 16 + 7, none⟩ = some (.string (ofL yy.sy.mi)) ∧ wx.cell? ⟨bk, off + k0 * 16 + 8, none⟩ = some (.string (ofL xx.sy.pe)) ∧ wx.cell? ⟨bk', off' + k0 * 16 + 8, none⟩ = some (.string (ofL yy.sy.pe)) ∧ wx.cell? ⟨bk, off + k0 * 16 + 9, none⟩ = some (.int .i64 xx.sy.pr) ∧ wx.cell? ⟨bk', off' + k0 * 16 + 9, none⟩ = some (.int .i64 yy.sy.pr) ∧ wx.cell? ⟨bk, off + k0 * 16 + 10, none⟩ = some (.int .i64 xx.sy.se) ∧ wx.cell? ⟨bk', off' + k0 * 16 + 10, none⟩ = some (.int .i64 yy.sy.se) ∧ wx.cell? ⟨bk, off + k0 * 16 + 11, none⟩ = some (.slice xx.li.a xx.li.n xx.li.c) ∧ wx.cell? ⟨bk', off' + k0 * 16 + 11, none⟩ = some (.slice yy.li.a yy.li.n yy.li.c) ∧ wx.cell? ⟨bk, off + k0 * 16 + 12, none⟩ = some (.slice xx.un.a xx.un.n xx.un.c) ∧ wx.cell? ⟨bk', off' + k0 * 16 + 12, none⟩ = some (.slice yy.un.a yy.un.n yy.un.c) ∧ wx.cell? ⟨bk, off + k0 * 16 + 13, none⟩ = some (.slice xx.da.a xx.da.n xx.da.c) ∧ wx.cell? ⟨bk', off' + k0 * 16 + 13, none⟩ = some (.slice yy.da.a yy.da.n yy.da.c) ∧ wx.cell? ⟨bk, off + k0 * 16 + 14, none⟩ = some (.slice xx.mo.a xx.mo.n xx.mo.c) ∧ wx.cell? ⟨bk', off' + k0 * 16 + 14, none⟩ = some (.slice yy.mo.a yy.mo.n yy.mo.c) ∧ wx.cell? ⟨bk, off + k0 * 16 + 15, none⟩ = some (.slice xx.dy.a xx.dy.n xx.dy.c) ∧ wx.cell? ⟨bk', off' + k0 * 16 + 15, none⟩ = some (.slice yy.dy.a yy.dy.n yy.dy.c)) := Lib.hid (fun wx hb => ⟨cell_later sp0 hb, cell_later sq0 hb, cell_later h0 hb, cell_later g0 hb, cell_later h1 hb, cell_later g1 hb, cell_later h2 hb, cell_later g2 hb, cell_later h3 hb, cell_later g3 hb, cell_later h4 hb, cell_later g4 hb, cell_later h5 hb, cell_later g5 hb, cell_later h6 hb, cell_later g6 hb, cell_later h7 hb, cell_later g7 hb, cell_later h8 hb, cell_later g8 hb, cell_later h9 hb, cell_later g9 hb, cell_later h10 hb, cell_later g10 hb, cell_later h11 hb, cell_later g11 hb, cell_later h12 hb, cell_later g12 hb, cell_later h13 hb, cell_later g13 hb, cell_later h14 hb, cell_later g14 hb, cell_later h15 hb, cell_later g15 hb⟩)
      have HU := Lib.hid hu
      have HV := Lib.hid hv
      have HCALL := Lib.hid (refLoc_any xx yy u v wr.drew (ok.below (Below.refl _ _).drew) (ok'.below (Below.refl _ _).drew))
      obtain ⟨b, hbb⟩ : ∃ b, decide (u = v) = b := ⟨_, rfl⟩
      rw [hbb] at HCALL
      have HQ := Lib.hid hbb
      clear hx gx hu hv ok ok' hbb
      go_wp2_with fail
      go_region_held3 (fun wx => wx.cell? ⟨w.heap.size, 0, none⟩ = some (.slice (some ⟨bk, off, none⟩) p.lo.length locp) ∧ wx.cell? ⟨w.heap.size + 1, 0, none⟩ = some (.slice (some ⟨bk', off', none⟩) q.lo.length locq) ∧ wx.cell? ⟨bk, off + k0 * 16, none⟩ = some (.string (ofL xx.tag)) ∧ wx.cell? ⟨bk', off' + k0 * 16, none⟩ = some (.string (ofL yy.tag)) ∧ wx.cell? ⟨bk, off + k0 * 16 + 1, none⟩ = some (.string (ofL xx.par)) ∧ wx.cell? ⟨bk', off' + k0 * 16 + 1, none⟩ = some (.string (ofL yy.par)) ∧ wx.cell? ⟨bk, off + k0 * 16 + 2, none⟩ = some (.string (ofL xx.dir)) ∧ wx.cell? ⟨bk', off' + k0 * 16 + 2, none⟩ = some (.string (ofL yy.dir)) ∧ wx.cell? ⟨bk, off + k0 * 16 + 3, none⟩ = some (.slice xx.ca.a xx.ca.n xx.ca.c) ∧ wx.cell? ⟨bk', off' + k0 * 16 + 3, none⟩ = some (.slice yy.ca.a yy.ca.n yy.ca.c) ∧ wx.cell? ⟨bk, off + k0 * 16 + 4, none⟩ = some (.slice xx.oc.a xx.oc.n xx.oc.c) ∧ wx.cell? ⟨bk', off' + k0 * 16 + 4, none⟩ = some (.slice yy.oc.a yy.oc.n yy.oc.c) ∧ wx.cell? ⟨bk, off + k0 * 16 + 5, none⟩ = some (.string (ofL xx.sy.de)) ∧ wx.cell? ⟨bk', off' + k0 * 16 + 5, none⟩ = some (.string (ofL yy.sy.de)) ∧ wx.cell? ⟨bk, off + k0 * 16 + 6, none⟩ = some (.string (ofL xx.sy.gr)) ∧ wx.cell? ⟨bk', off' + k0 * 16 + 6, none⟩ = some (.string (ofL yy.sy.gr)) ∧ wx.cell? ⟨bk, off + k0 * 16 + 7, none⟩ = some (.string (ofL xx.sy.mi)) ∧ wx.cell? ⟨bk', off' + k0 * 16 + 7, none⟩ = some (.string (ofL yy.sy.mi)) ∧ wx.cell? ⟨bk, off + k0 * 16 + 8, none⟩ = some (.string (ofL xx.sy.pe)) ∧ wx.cell? ⟨bk', off' + k0 * 16 + 8, none⟩ = some (.string (ofL yy.sy.pe)) ∧ wx.cell? ⟨bk, off + k0 * 16 + 9, none⟩ = some (.int .i64 xx.sy.pr) ∧ wx.cell? ⟨bk', off' + k0 * 16 + 9, none⟩ = some (.int .i64 yy.sy.pr) ∧ wx.cell? ⟨bk, off + k0 * 16 + 10, none⟩ = some (.int .i64 xx.sy.se) ∧ wx.cell? ⟨bk', off' + k0 * 16 + 10, none⟩ = some (.int .i64 yy.sy.se) ∧ wx.cell? ⟨bk, off + k0 * 16 + 11, none⟩ = some (.slice xx.li.a xx.li.n xx.li.c) ∧ wx.cell? ⟨bk', off' + k0 * 16 + 11, none⟩ = some (.slice yy.li.a yy.li.n yy.li.c) ∧ wx.cell? ⟨bk, off + k0 * 16 + 12, none⟩ = some (.slice xx.un.a xx.un.n xx.un.c) ∧ wx.cell? ⟨bk', off' + k0 * 16 + 12, none⟩ = some (.slice yy.un.a yy.un.n yy.un.c) ∧ wx.cell? ⟨bk, off + k0 * 16 + 13, none⟩ = some (.slice xx.da.a xx.da.n xx.da.c) ∧ wx.cell? ⟨bk', off' + k0 * 16 + 13, none⟩ = some (.slice yy.da.a yy.da.n yy.da.c) ∧ wx.cell? ⟨bk, off + k0 * 16 + 14, none⟩ = some (.slice xx.mo.a xx.mo.n xx.mo.c) ∧ wx.cell? ⟨bk', off' + k0 * 16 + 14, none⟩ = some (.slice yy.mo.a yy.mo.n yy.mo.c) ∧ wx.cell? ⟨bk, off + k0 * 16 + 15, none⟩ = some (.slice xx.dy.a xx.dy.n xx.dy.c) ∧ wx.cell? ⟨bk', off' + k0 * 16 + 15, none⟩ = some (.slice yy.dy.a yy.dy.n yy.dy.c)) (first | exact HCE.out _ B2 | exact HCE.out _ (Below.refl _ _).drew) (first | (go_at_call 41; refine HCALL.out.mono ?_; rintro e w2 ⟨rfl, b2⟩; have B2 : Below wr.heap.size wr w2 := (Below.refl _ wr).drew.trans b2; clear b2))
      cases b with
      | false =>
        have HN : Hid (decide (p = q) = false) := Lib.hid (decide_eq_false (fun hpq => of_decide_eq_false HQ.out (by rw [← HU.out, ← HV.out]; subst hpq; rfl)))
        go_wp2
        go_ret
        exact ⟨ret_bool HN.out.symm, HB0.out.trans (B2.mono zr0)⟩
      | true =>
        go_wp2
        go_roundw
        case measure => simp [intOf]; omega
        case rel => exact ⟨k0 + 1, by omega, by go_num, fun j hj hj' hjk => by
          rcases Nat.lt_or_ge j k0 with h | h
          · exact HK0.out j hj hj' h
          · obtain rfl : j = k0 := by omega
            rw [HU.out, HV.out]; exact of_decide_eq_true HQ.out, HB0.out.trans (B2.mono zr0), KA0.out.below B2, KB0.out.below B2⟩
    obtain rfl : k0 = p.lo.length := by omega
    have h30 : ¬ (p.lo.length : Int) < (p.lo.length : Int) := by omega
    have HE0 : Hid (p.lo = q.lo) := Lib.hid (List.ext_getElem Tlo.out (fun j h1 h2 => HK0.out j h1 h2 h1))
    clear hlt
    go_wp2
    go_loopw [6] (fun v wr => ∃ k : Nat, k ≤ p.al.length ∧ v = .int .i64 k ∧ (∀ (j : Nat) (hj : j < p.al.length) (hj' : j < q.al.length), j < k → p.al[j] = q.al[j]) ∧ Below w.heap.size w wr ∧ Blk w.heap.size 27 #[.slice loap p.lo.length locp, .slice alap p.al.length alcp, .slice neap p.ne.length necp] wr ∧ Blk (w.heap.size + 1) 27 #[.slice loaq q.lo.length locq, .slice alaq q.al.length alcq, .slice neaq q.ne.length necq] wr) (fun v _ => p.al.length - (intOf v).toNat)
    case atStart => exact ⟨0, Nat.zero_le _, rfl, fun j _ _ h => by omega, HB0.out, KA0.out, KB0.out⟩
    case round =>
      obtain ⟨k1, hk1, rfl, hkd1, hb1, ka1, kb1⟩ := hrel
      have HK1 := Lib.hid hkd1
      have HB1 := Lib.hid hb1
      have KA1 := Lib.hid ka1
      have KB1 := Lib.hid kb1
      have zr1 := hb1.size
      have sp1 : wr.cell? ⟨w.heap.size, 1, none⟩ = some (.slice alap p.al.length alcp) := ka1.cell 1
      have sq1 : wr.cell? ⟨w.heap.size + 1, 1, none⟩ = some (.slice alaq q.al.length alcq) := kb1.cell 1
      have spd1 : wr.drew.cell? ⟨w.heap.size, 1, none⟩ = some (.slice alap p.al.length alcp) := ka1.cell 1
      have sqd1 : wr.drew.cell? ⟨w.heap.size + 1, 1, none⟩ = some (.slice alaq q.al.length alcq) := kb1.cell 1
      clear hkd1 hb1 ka1 kb1
      by_cases hlt : k1 < p.al.length
      · have hlt' : k1 < q.al.length := by have := Tal.out; omega
        have h9 : (k1 : Int) < (p.al.length : Int) := by omega
        have h9' : (k1 : Int) < (q.al.length : Int) := by omega
        obtain ⟨bk, off, rfl, h00, hx⟩ := (Halp.out.below HB1.out).some_ k1 hlt
        obtain ⟨bk', off', rfl, g00, gx⟩ := (Halq.out.below HB1.out).some_ k1 hlt'
        obtain ⟨u, hu⟩ : ∃ u, p.al[k1] = u := ⟨_, rfl⟩
        obtain ⟨v, hv⟩ : ∃ v, q.al[k1] = v := ⟨_, rfl⟩
        rw [hu] at hx
        rw [hv] at gx
        have h0 : wr.cell? ⟨bk, off + k1 * 2, none⟩ = some (.string (ofL u.1)) := hx 0 _ rfl
        have g0 : wr.cell? ⟨bk', off' + k1 * 2, none⟩ = some (.string (ofL v.1)) := gx 0 _ rfl
        have h0d : wr.drew.cell? ⟨bk, off + k1 * 2, none⟩ = some (.string (ofL u.1)) := hx 0 _ rfl
        have g0d : wr.drew.cell? ⟨bk', off' + k1 * 2, none⟩ = some (.string (ofL v.1)) := gx 0 _ rfl
        have h1 : wr.cell? ⟨bk, off + k1 * 2 + 1, none⟩ = some (.string (ofL u.2)) := hx 1 _ rfl
        have g1 : wr.cell? ⟨bk', off' + k1 * 2 + 1, none⟩ = some (.string (ofL v.2)) := gx 1 _ rfl
        have h1d : wr.drew.cell? ⟨bk, off + k1 * 2 + 1, none⟩ = some (.string (ofL u.2)) := hx 1 _ rfl
        have g1d : wr.drew.cell? ⟨bk', off' + k1 * 2 + 1, none⟩ = some (.string (ofL v.2)) := gx 1 _ rfl
        have HU := Lib.hid hu
        have HV := Lib.hid hv
        have e1 := eqAl u v
        clear hx gx hu hv
        by_cases e : u = v
        · subst e
          have ed : decide (u = u) = true := decide_eq_true rfl
          rw [ed] at e1
          go_wp2_with fail
          go_quiet (fail)
          go_wp2
          go_roundw
          case measure => simp [intOf]; omega
          case rel => exact ⟨k1 + 1, by omega, by go_num, fun j hj hj' hjk => by
            rcases Nat.lt_or_ge j k1 with h | h
            · exact HK1.out j hj hj' h
            · obtain rfl : j = k1 := by omega
              rw [HU.out, HV.out], below_drewN HB1.out _, KA1.out.drewN _, KB1.out.drewN _⟩
        · have ed : decide (u = v) = false := decide_eq_false e
          rw [ed] at e1
          have HN : Hid (decide (p = q) = false) := Lib.hid (decide_eq_false (fun hpq => e (by rw [← HU.out, ← HV.out]; subst hpq; rfl)))
          go_wp2_with fail
          go_quiet (fail)
          go_wp2
          go_ret
          exact ⟨ret_bool HN.out.symm, below_drewN HB1.out _⟩
      obtain rfl : k1 = p.al.length := by omega
      have h31 : ¬ (p.al.length : Int) < (p.al.length : Int) := by omega
      have HE1 : Hid (p.al = q.al) := Lib.hid (List.ext_getElem Tal.out (fun j h1 h2 => HK1.out j h1 h2 h1))
      clear hlt
      go_wp2
      go_loopw [7] (fun v wr => ∃ k : Nat, k ≤ p.ne.length ∧ v = .int .i64 k ∧ (∀ (j : Nat) (hj : j < p.ne.length) (hj' : j < q.ne.length), j < k → p.ne[j] = q.ne[j]) ∧ Below w.heap.size w wr ∧ Blk w.heap.size 27 #[.slice loap p.lo.length locp, .slice alap p.al.length alcp, .slice neap p.ne.length necp] wr ∧ Blk (w.heap.size + 1) 27 #[.slice loaq q.lo.length locq, .slice alaq q.al.length alcq, .slice neaq q.ne.length necq] wr) (fun v _ => p.ne.length - (intOf v).toNat)
      case atStart => exact ⟨0, Nat.zero_le _, rfl, fun j _ _ h => by omega, HB1.out, KA1.out, KB1.out⟩
      case round =>
        obtain ⟨k2, hk2, rfl, hkd2, hb2, ka2, kb2⟩ := hrel
        have HK2 := Lib.hid hkd2
        have HB2 := Lib.hid hb2
        have KA2 := Lib.hid ka2
        have KB2 := Lib.hid kb2
        have zr2 := hb2.size
        have sp2 : wr.cell? ⟨w.heap.size, 2, none⟩ = some (.slice neap p.ne.length necp) := ka2.cell 2
        have sq2 : wr.cell? ⟨w.heap.size + 1, 2, none⟩ = some (.slice neaq q.ne.length necq) := kb2.cell 2
        have spd2 : wr.drew.cell? ⟨w.heap.size, 2, none⟩ = some (.slice neap p.ne.length necp) := ka2.cell 2
        have sqd2 : wr.drew.cell? ⟨w.heap.size + 1, 2, none⟩ = some (.slice neaq q.ne.length necq) := kb2.cell 2
        clear hkd2 hb2 ka2 kb2
        by_cases hlt : k2 < p.ne.length
        · have hlt' : k2 < q.ne.length := by have := Tne.out; omega
          have h9 : (k2 : Int) < (p.ne.length : Int) := by omega
          have h9' : (k2 : Int) < (q.ne.length : Int) := by omega
          obtain ⟨bk, off, rfl, h00, hx⟩ := (Hnep.out.below HB2.out).some_ k2 hlt
          obtain ⟨bk', off', rfl, g00, gx⟩ := (Hneq.out.below HB2.out).some_ k2 hlt'
          obtain ⟨u, hu⟩ : ∃ u, p.ne[k2] = u := ⟨_, rfl⟩
          obtain ⟨v, hv⟩ : ∃ v, q.ne[k2] = v := ⟨_, rfl⟩
          rw [hu] at hx
          rw [hv] at gx
          have h0 : wr.cell? ⟨bk, off + k2 * 3, none⟩ = some (.string (ofL u.fr)) := hx 0 _ rfl
          have g0 : wr.cell? ⟨bk', off' + k2 * 3, none⟩ = some (.string (ofL v.fr)) := gx 0 _ rfl
          have h0d : wr.drew.cell? ⟨bk, off + k2 * 3, none⟩ = some (.string (ofL u.fr)) := hx 0 _ rfl
          have g0d : wr.drew.cell? ⟨bk', off' + k2 * 3, none⟩ = some (.string (ofL v.fr)) := gx 0 _ rfl
          have h1 : wr.cell? ⟨bk, off + k2 * 3 + 1, none⟩ = some (.string (ofL u.to_)) := hx 1 _ rfl
          have g1 : wr.cell? ⟨bk', off' + k2 * 3 + 1, none⟩ = some (.string (ofL v.to_)) := gx 1 _ rfl
          have h1d : wr.drew.cell? ⟨bk, off + k2 * 3 + 1, none⟩ = some (.string (ofL u.to_)) := hx 1 _ rfl
          have g1d : wr.drew.cell? ⟨bk', off' + k2 * 3 + 1, none⟩ = some (.string (ofL v.to_)) := gx 1 _ rfl
          have h2 : wr.cell? ⟨bk, off + k2 * 3 + 2, none⟩ = some (.int .i64 u.co) := hx 2 _ rfl
          have g2 : wr.cell? ⟨bk', off' + k2 * 3 + 2, none⟩ = some (.int .i64 v.co) := gx 2 _ rfl
          have h2d : wr.drew.cell? ⟨bk, off + k2 * 3 + 2, none⟩ = some (.int .i64 u.co) := hx 2 _ rfl
          have g2d : wr.drew.cell? ⟨bk', off' + k2 * 3 + 2, none⟩ = some (.int .i64 v.co) := gx 2 _ rfl
          have HU := Lib.hid hu
          have HV := Lib.hid hv
          have e1 := eqNe u v
          clear hx gx hu hv
          by_cases e : u = v
          · subst e
            have ed : decide (u = u) = true := decide_eq_true rfl
            rw [ed] at e1
            go_wp2_with fail
            go_quiet (fail)
            go_wp2
            go_roundw
            case measure => simp [intOf]; omega
            case rel => exact ⟨k2 + 1, by omega, by go_num, fun j hj hj' hjk => by
              rcases Nat.lt_or_ge j k2 with h | h
              · exact HK2.out j hj hj' h
              · obtain rfl : j = k2 := by omega
                rw [HU.out, HV.out], below_drewN HB2.out _, KA2.out.drewN _, KB2.out.drewN _⟩
          · have ed : decide (u = v) = false := decide_eq_false e
            rw [ed] at e1
            have HN : Hid (decide (p = q) = false) := Lib.hid (decide_eq_false (fun hpq => e (by rw [← HU.out, ← HV.out]; subst hpq; rfl)))
            go_wp2_with fail
            go_quiet (fail)
            go_wp2
            go_ret
            exact ⟨ret_bool HN.out.symm, below_drewN HB2.out _⟩
        obtain rfl : k2 = p.ne.length := by omega
        have h32 : ¬ (p.ne.length : Int) < (p.ne.length : Int) := by omega
        have HE2 : Hid (p.ne = q.ne) := Lib.hid (List.ext_getElem Tne.out (fun j h1 h2 => HK2.out j h1 h2 h1))
        clear hlt
        go_wp2
        go_ret
        exact ⟨ret_bool (decide_eq_true (p := p = q) (tab_eq HE0.out HE1.out HE2.out)).symm, HB2.out⟩
theorem refTab_any (a b c a' b' c' : RawS) (p q : Tab) (w : World) (hp : RdTab w (.slice a.a a.n a.c) (.slice b.a b.n b.c) (.slice c.a c.n c.c) p) (hq : RdTab w (.slice a'.a a'.n a'.c) (.slice b'.a b'.n b'.c) (.slice c'.a c'.n c'.c) q) :
    Calls Tryz.prog 15 #[.agg #[.slice a.a a.n a.c, .slice b.a b.n b.c, .slice c.a c.n c.c], .agg #[.slice a'.a a'.n a'.c, .slice b'.a b'.n b'.c, .slice c'.a c'.n c'.c]] w fun e w' => e = .returned (.bool (decide (p = q))) ∧ Below w.heap.size w w' := by
  obtain ⟨aa, an, ac⟩ := a
  obtain ⟨ba, bn, bc⟩ := b
  obtain ⟨ca, cn, cc⟩ := c
  obtain ⟨aa', an', ac'⟩ := a'
  obtain ⟨ba', bn', bc'⟩ := b'
  obtain ⟨ca', cn', cc'⟩ := c'
  dsimp only at hp hq ⊢
  obtain rfl : an = p.lo.length := hp.lo.len.symm
  obtain rfl : bn = p.al.length := hp.al.len.symm
  obtain rfl : cn = p.ne.length := hp.ne.len.symm
  obtain rfl : an' = q.lo.length := hq.lo.len.symm
  obtain rfl : bn' = q.al.length := hq.al.len.symm
  obtain rfl : cn' = q.ne.length := hq.ne.len.symm
  exact refTabP_any p q w hp hq
end Go.Proofs.YtpmmchppfmojhaaGreatDoor


/- What is asked of the program's table package, and the example of the laws. -/
namespace Go.Proofs.YtpmmchppfmojhaaGreatDoor
open Go.RowKit
set_option linter.unusedVariables false

/-- Parse: the table, or an empty one and an error. -/
def TpPost (s : Str) (w : World) (e : Ending) (w' : World) : Prop := (∃ (a b c : RawS) (at_ er : Int), e = .returned (.tuple #[.agg #[.slice a.a a.n a.c, .slice b.a b.n b.c, .slice c.a c.n c.c], .int .i64 at_, .int .i64 er]) ∧ match prsT s with
  | some t => RdTab w' (.slice a.a a.n a.c) (.slice b.a b.n b.c) (.slice c.a c.n c.c) t ∧ er = 0
  | none => RdTab w' (.slice a.a a.n a.c) (.slice b.a b.n b.c) (.slice c.a c.n c.c) ⟨[], [], []⟩ ∧ er ≠ 0) ∧ Below w.heap.size w w'
/-- Small enough: what is known of a table that Few lets pass, and of the law's own. -/
structure TabS (t : Tab) : Prop where
  reach : TabR t
  lo : t.lo.length ≤ 62
  al : t.al.length ≤ 205
  ne : t.ne.length ≤ 205
  ca : ∀ x ∈ t.lo, x.ca.length ≤ 12 ∧ x.oc.length ≤ 12 ∧ x.li.length ≤ 12 ∧ x.un.length ≤ 110 ∧ x.da.length ≤ 40 ∧ x.mo.length ≤ 20 ∧ x.dy.length ≤ 20
  co : ∀ x ∈ t.lo, ∀ r ∈ x.ca ++ x.oc, r.2.length ≤ 30
/-- Print: the text, or an error. -/
def PrPost (t : Tab) (w : World) (e : Ending) (w' : World) : Prop := (∃ (s : Str) (er : Int), e = .returned (.tuple #[.string (ofL s), .int .i64 er]) ∧ (TabV t → (tabX t).length ≤ 200000 → s = tabX t ∧ er = 0) ∧ (TabV t → ¬ (tabX t).length ≤ 200000 → s = [] ∧ er = 6) ∧ (¬ TabV t → s = [] ∧ er = 1)) ∧ Below w.heap.size w w'
/-- What the program's functions do; E: what they ask of the world. -/
structure ParC where
  E : World → Prop
  later : ∀ {w w' : World}, E w → Below w.heap.size w w' → E w'
  parse : ∀ (w : World) (s : Str), E w → s.length ≤ 300000 → Calls Tryz.prog 18 #[.string (ofL s)] w (TpPost s w)
/-- And of Print and Valid. -/
structure TabC extends ParC where
  print : ∀ (w : World) (a b c : RawS) (t : Tab), E w → RdTab w (.slice a.a a.n a.c) (.slice b.a b.n b.c) (.slice c.a c.n c.c) t → TabS t → Calls Tryz.prog 12 #[.agg #[.slice a.a a.n a.c, .slice b.a b.n b.c, .slice c.a c.n c.c]] w (PrPost t w)
  valid : ∀ (w : World) (a b c : RawS) (t : Tab), E w → RdTab w (.slice a.a a.n a.c) (.slice b.a b.n b.c) (.slice c.a c.n c.c) t → TabS t → Calls Tryz.prog 14 #[.agg #[.slice a.a a.n a.c, .slice b.a b.n b.c, .slice c.a c.n c.c]] w fun e w' => (∃ vb, e = .returned (.bool vb) ∧ (vb = true ↔ TabV t)) ∧ Below w.heap.size w w'
def awTb : Str := [97, 108, 105, 97, 115, 32, 105, 119, 32, 104, 101, 59]
set_option maxRecDepth 1000000 in
set_option maxHeartbeats 8000000 in
theorem awakeT_any (C : ParC) (w : World) (E : C.E w) : Calls Tryz.prog 10 #[] w fun e w' => e = .returned (.bool true) ∧ Below w.heap.size w w' := by
  have HP := Lib.hid (C.parse w awTb E (by decide))
  clear E
  go_enter Tryz.func10, Tryz.ntmps10
  go_wp2_with fail
  refine HP.out.mono ?_
  rintro e w1 ⟨⟨a, b, c, at_, er, rfl, h1⟩, b1⟩
  rw [show prsT awTb = some ⟨[], [([105, 119], [104, 101])], []⟩ from aw_tab] at h1
  obtain ⟨hr, rfl⟩ := h1
  obtain ⟨ba, bn, bc⟩ := b
  have hn : (1 : Nat) = bn := hr.al.len
  subst hn
  obtain ⟨bk, off, hb, h00, hx⟩ := hr.al.some_ 0 (by decide)
  have h0 : w1.cell? ⟨bk, off + 0 * 2, none⟩ = some (.string ⟨#[105, 119]⟩) := hx 0 _ rfl
  have h2 : w1.cell? ⟨bk, off + 0 * 2 + 1, none⟩ = some (.string ⟨#[104, 101]⟩) := hx 1 _ rfl
  rw [Nat.zero_mul, Nat.add_zero] at h0 h2
  have hb' : ba = some ⟨bk, off, none⟩ := hb
  subst hb'
  have B1 := Lib.hid b1
  clear hr hx b1 hb
  have B2 := Lib.hid (B1.out.alloc B1.out.size (.cells #[.slice a.a a.n a.c, .slice (some ⟨bk, off, none⟩) 1 bc, .slice c.a c.n c.c] 27))
  go_wp2
  go_ret
  exact ⟨rfl, B2.out⟩
end Go.Proofs.YtpmmchppfmojhaaGreatDoor


/- Parse's answer with a table in any case; lists of locales put together. -/
namespace Go.Proofs.YtpmmchppfmojhaaGreatDoor
open Go.RowKit
set_option linter.unusedVariables false

theorem str_addZ {P : Program} {x y z : Str} (h : x.length + y.length ≤ 9223372036854775807) (hz : x ++ y = z) (wx : World) : (Op.stringOp .add (ofL x) (ofL y)).run P wx = .ok (.string (ofL z)) wx := by
  have h2 := run_string_add_sum (P := P) (w := wx) (ofL x) (ofL y) (by rw [ofL_size, ofL_size]; exact h)
  rw [add_two, hz] at h2
  exact h2
theorem own_none (k : Nat) {α : Type} (enc : α → List Value) (w : World) (base : Nat) (e : TypeId) (hb : base ≤ w.heap.size) : Own1 k enc (w.alloc (.cells #[] e)) base e (.slice (some ⟨w.heap.size, 0, none⟩) 0 0) [] :=
  ⟨by simp, .inr ⟨w.heap.size, 0, #[], rfl, hb, heap_alloc_new w _, Nat.le_refl _, by decide, by simp, by simp⟩⟩
theorem rdLocs_app {w : World} {v : Value} {r1 r2 : List RawLo} {c d : List Loc} (h : Rd 16 encLo w v (r1 ++ r2)) (n1 : r1.length = c.length) (n2 : r2.length = d.length)
    (h1 : ∀ (i : Nat) (h : i < r1.length) (h' : i < c.length), LocOk w r1[i] c[i]) (h2 : ∀ (i : Nat) (h : i < r2.length) (h' : i < d.length), LocOk w r2[i] d[i]) : RdLocs w v (c ++ d) := by
  refine ⟨r1 ++ r2, h, by rw [List.length_append, List.length_append, n1, n2], fun i hi hi' => ?_⟩
  rcases Nat.lt_or_ge i r1.length with h | h
  · rw [List.getElem_append_left h, List.getElem_append_left (by omega)]
    exact h1 i h (by omega)
  · have e1 : i - r1.length < r2.length := by rw [List.length_append] at hi; omega
    rw [List.getElem_append_right h, List.getElem_append_right (by omega)]
    have := h2 (i - r1.length) e1 (by omega)
    simpa only [n1] using this
/-- What Parse answered, with a table in any case. -/
theorem TpPost.tab {s : Str} {w w' : World} {e : Ending} (h : TpPost s w e w') : ∃ (a b c : RawS) (at_ er : Int) (t : Tab), e = .returned (.tuple #[.agg #[.slice a.a t.lo.length a.c, .slice b.a t.al.length b.c, .slice c.a t.ne.length c.c], .int .i64 at_, .int .i64 er]) ∧ RdTab w' (.slice a.a t.lo.length a.c) (.slice b.a t.al.length b.c) (.slice c.a t.ne.length c.c) t ∧ (er = 0 → prsT s = some t) ∧ (er ≠ 0 → prsT s = none ∧ t = ⟨[], [], []⟩) ∧ Below w.heap.size w w' := by
  obtain ⟨⟨a, b, c, at_, er, rfl, h1⟩, b1⟩ := h
  obtain ⟨aa, an, ac⟩ := a
  obtain ⟨ba, bn, bc⟩ := b
  obtain ⟨ca, cn, cc⟩ := c
  split at h1
  · rename_i t ht
    obtain ⟨h2, h3⟩ := h1
    obtain rfl : an = t.lo.length := h2.lo.len.symm
    obtain rfl : bn = t.al.length := h2.al.len.symm
    obtain rfl : cn = t.ne.length := h2.ne.len.symm
    exact ⟨⟨aa, t.lo.length, ac⟩, ⟨ba, t.al.length, bc⟩, ⟨ca, t.ne.length, cc⟩, at_, er, t, rfl, h2, fun _ => ht, fun h => absurd h3 h, b1⟩
  · rename_i ht
    obtain ⟨h2, h3⟩ := h1
    obtain rfl : an = 0 := h2.lo.len.symm
    obtain rfl : bn = 0 := h2.al.len.symm
    obtain rfl : cn = 0 := h2.ne.len.symm
    exact ⟨⟨aa, 0, ac⟩, ⟨ba, 0, bc⟩, ⟨ca, 0, cc⟩, at_, er, ⟨[], [], []⟩, rfl, h2, fun h => absurd h h3, fun _ => ⟨ht, rfl⟩, b1⟩
end Go.Proofs.YtpmmchppfmojhaaGreatDoor


