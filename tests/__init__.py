"""Tests of lotback."""
