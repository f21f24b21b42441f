package num_test

import (
	"strings"
	"testing"

	"shunt/api"
	"shunt/num"
)

func TestValid(t *testing.T) {
	for _, n := range rights() {
		if !num.Valid(n) {
			t.Errorf("Valid(%v): false", n)
		}
	}
	for _, n := range wrongs() {
		if num.Valid(n) {
			t.Errorf("Valid(%v): true", n)
		}
	}
}

func TestWrongNumbers(t *testing.T) {
	for _, n := range wrongs() {
		if s, err := num.Text(n); s != "" || err != api.ErrNum {
			t.Errorf("Text(%v): %q with error %d", n, s, err)
		}
		if r, err := num.Value(n); r.Num.Neg || r.Den.Neg || len(r.Num.Limbs)+len(r.Den.Limbs) != 0 || err != api.ErrNum {
			t.Errorf("Value(%v): %v with error %d", n, r, err)
		}
		if g, err := num.Grid(n); g != 0 || err != api.ErrNum {
			t.Errorf("Grid(%v): %d with error %d", n, g, err)
		}
	}
}

func TestWrongNumbersInCmp(t *testing.T) {
	for i, n := range wrongs() {
		for _, o := range []api.Num{{}, {Mant: 1}, {Mant: -999999999, Exp: 9}, n, wrongs()[i/2]} {
			if c, err := num.Cmp(n, o); c != 0 || err != api.ErrNum {
				t.Errorf("Cmp(%v, %v): %d with error %d", n, o, c, err)
			}
			if c, err := num.Cmp(o, n); c != 0 || err != api.ErrNum {
				t.Errorf("Cmp(%v, %v): %d with error %d", o, n, c, err)
			}
		}
	}
}

func TestTextsOfNoForm(t *testing.T) {
	for _, s := range []string{
		"-", "--1", "+", "-+1", "- 1", " 1", "1 ", "1\n", "\t1", "1\x00", "\x001", "1-", "1+1", "1-1", "0x1", "1_000", "1,5", "inf", "nan",
		"..", "1..2", "1.2.3", "-.5", "-1.", "1.k", ".k", "1.-5", "1.+5", "1. 5", "1.e3", "-.e3", "1,000",
		"k", "-k", "meg", "1kk", "1km", "1k5", "1k.5", "1k-", "-1k ", "1M", "1Meg", "1MEG", "1me", "1mega", "1mg", "1eg", "1megk", "1meg3",
		"1F", "1P", "1N", "1U", "1G", "1T", "1a", "1d", "1mm", "1mil", "1ohm", "1kohm", "1v", "1µ", "1\xb5", "1%",
		"e", "e3", "-e3", "1e+", "1e-", "1e++1", "1e+-1", "1e--1", "1e-+1", "1e 1", "1e1 ", "1e.5", "1e1.5", "1e001", "1e-001", "1e+123",
		"1E3", "1e3k", "1ke3", "1e3e3", "1ee3", "1ek", "1e1k", "1e-k", "1e3-", "1e3+", "1e1_",
		"١", "１", "1٣", "1²", "1e²", "½", "−1", "1\u00a0", "\ufeff1", "\xff", "1\xff", "\xff1",
	} {
		unread(t, s, api.ErrText)
	}
}

// ErrText comes ahead of ErrNum.
func TestTextsOfNoFormBeyondTheNumbers(t *testing.T) {
	for _, s := range []string{"1234567891", "-1234567891.5", "12345678901234567890", "0.0000000000000000001", "1t", "1f"} {
		for _, tail := range []string{"x", ".", "e", "e999", " ", "K", "kk", "e-99e"} {
			unread(t, s+tail, api.ErrText)
		}
	}
	for _, s := range []string{"1e-19", "1e10", "1e99", "-1e-99"} {
		for _, tail := range []string{"x", ".", "e", "9", "k", ".0", " "} {
			unread(t, s+strings.Repeat(tail, 2), api.ErrText)
		}
	}
}

func TestValuesWithoutRightNumber(t *testing.T) {
	for _, s := range []string{
		"1234567891", "-1234567891", "1000000001", "-1000000001", "9999999999", "0.1234567891", "1.000000001", "12345.67891k",
		"10000000000", "-10000000000", "1e10", "1e+10", "-1e10", "10g", "1t", "-1t", "0.01t", "10e9", "10000meg", "999999999e10",
		"1e-19", "-1e-19", "0.1e-18", "0.0001f", "-0.0001f", "0.0000000000000000001", "15e-19", "999999999e-19", "0.5e-18",
		"1e99", "1e-99", "123456789e99", "4294967296", "4294967297", "2147483649", "9223372036854775807", "9223372036854775808",
		"-9223372036854775808", "-9223372036854775809", "18446744073709551616", "18446744073709551617", "184467440737095516170",
		"9999999999999999999999999999999", "-123456789012345678901234567890", "340282366920938463463374607431",
	} {
		unread(t, s, api.ErrNum)
	}
}
