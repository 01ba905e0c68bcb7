"""Criermoot: notices that go from site to site over breaking lines."""
