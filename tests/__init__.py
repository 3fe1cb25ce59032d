"""Tests of leapranks."""
