// Package whole holds the tests of the promises that are of the whole program, and nothing else.
package whole
